import PyProof.Rows.All
import Wide.All
import OpenK.AllK
import Wide.FinOn
import HandS.ForMost
import HandS.ExcInit
import HandS.WideBits
import HandS.Wide
import HandS.CallSlots
import HandS.FStrTup
import HandS.ExcIs
import HandS.ExcField
import HandS.ExcValue
import KE.KIsAll
import KE.KTryMore
import HandS.AnyAll
import HandS.EndTab
import HandS.Gcd
import HandS.More
import HandS.Zip
import HandS.Rev
import HandS.TupMul
import HandS.TupAny
import HandS.Walk
import HandS.MakeKwOnly
import HandS.Style
import HandS.RevRange
import HandS.Conv
import HandS.IsInst
import KE.GoesMore
import PySem.Challenge.RW_allhelms_k10_whole_one_answer_for_each_q
set_option Elab.async false
set_option linter.all false
set_option maxRecDepth 100000
set_option maxHeartbeats 4000000
namespace Vx
open PySem PySem.Spec PyProof.Rows L2

/-- no repr is under way -/
abbrev Ng (A : Around) : Prop := A.guards = some []

/-- a promise that is kept where no repr is under way -/
structure FnG (P : Program) (w : World) (K : PySem.W.Frag) (mg : Str → Option Value) (base : Heap) (Z : CXT) (k : Nat)
    (f : Addr) (fd : FuncData) (ps : List Str) (sp : Sp) : Prop where
  len : ∀ vs H Q E, sp vs H Q E → vs.length = ps.length
  go : ∀ (A : Around) (out : List Env) (s : Shared) (H : Hp) (ar : Args) (us : List Value) (vs : List V) (Q : VK) (E : XK),
    Room k A → Ng A → Env0 P w K mg base A out s H → BindsTo s fd ar (ps.zip us) → Vals vs us → sp vs H Q E →
      codeAny (model P w) A (.call (.ref f) ar) (CR Z out P w H s Q E) s

section
variable {P : Program} {w : World} {K : PySem.W.Frag} {mg : Str → Option Value} {base : Heap} {Z : CXT} {k : Nat} {f : Addr}
theorem FnG.of {fd : FuncData} {ps : List Str} {sp : Sp} (F : FnOk P w K mg base Z k f fd ps sp) : FnG P w K mg base Z k f fd ps sp :=
  ⟨F.len, fun A o s H ar us vs Q E r _ e b v h => F.run A o s H ar us vs Q E r e b v h⟩

theorem gfn {nm qn : Str} {pr : Arguments} {body : List Stmt} {sc : Scope} {dV kV doc pm cv ct oc : Value} {an od : Option Addr}
    {osl : Array (Option Value)} {N ps : List Str} {sp : Sp}
    (lk : K.lookup f = some ⟨oc, od, .func (PySem.W.fnOf nm qn pr body sc dV kV doc pm an cv ct), osl⟩)
    (hc : PySem.W.codeIn K cv qn = true) (S : FnScope N ps sc) (len : ∀ vs H Q E, sp vs H Q E → vs.length = ps.length)
    (hb : ∀ (A : Around) (out : List Env) (s : Shared) (H : Hp) (vs : List V) (Q : VK) (E : XK), Ng A →
      Room k (A.deeper (envOfC qn sc s.heap.objs.size f cv)) → sp vs H Q E →
      ∃ t, PSs (cxOf Z P w K mg base N qn sc f cv A out s H E) body t ∧
        t { nx := fun _ H' => Q .non H', rt := Q } (start N vs) H) :
    FnG P w K mg base Z (k + 1) f (PySem.W.fnOf nm qn pr body sc dV kV doc pm an cv ct) ps sp := by
  refine ⟨len, ?_⟩
  intro A out s H ar us vs Q E hr hg e0 hbd r hsp
  have L := len _ _ _ _ hsp
  have KX : K.In s.heap := e0.mod.kin.keeps (fun b o e => (e0.bs b o e).1)
  have lim : s.heap.NoLimit := e0.mod.nolimit.keeps (fun b o e => (e0.bs b o e).1)
  have kd : ∀ y ∈ ps.zip us, sc.names.lookup y.1 = some .local ∨
      (sc.names.lookup y.1 = some .cell ∧ ((cellsFrom (s.heap.objs.size + 1) sc.names []).lookup y.1).isSome = true) := by
    rintro ⟨n, v⟩ hy
    rcases S.par n (List.of_mem_zip hy).1 with q | q
    · exact Or.inl q
    · exact Or.inr ⟨q, PySem.W.cellsFrom_some _ _ _ (Or.inl q)⟩
  refine codeAny_call_function hr.depth (KX _ _ lk) rfl S.co S.gen rfl (PySem.W.codeRec_of KX hc) (hbd _ _ _ _ ?_)
  refine wpAny_newFunctionEnv_cells S.kind kd ?_
  intro env he s1 x
  subst he
  refine ⟨lim.keeps x.toInCall.keep, codeAny_func ?_⟩
  obtain ⟨t, ht, hq⟩ := hb A out s H vs Q E hg (hr.deeper _) hsp
  have I := inv_start (CX := Z) (E := E) S hr.hd e0 L r x
  refine wpAny_mono (ht.run [] s1 (start N vs) H _ I hq) ?_ (fun _ _ z => z)
  intro fl s' hs
  cases fl with
  | ret u =>
    obtain ⟨v, σ', H', J, rv, q⟩ := hs
    exact ⟨v, H', J.os, J.bare, J.base, J.hok, rv, q⟩
  | next =>
    obtain ⟨σ', H', J, q⟩ := hs
    exact ⟨V.non, H', J.os, J.bare, J.base, J.hok, rfl, q⟩
  | brk =>
    obtain ⟨_, _, _, q⟩ := hs
    exact q.elim
  | cont =>
    obtain ⟨_, _, _, q⟩ := hs
    exact q.elim

/-- a def from which no exception leaves -/
theorem gok {x qn : Str} {st : Stmt} {fd : FuncData} {N ps : List Str} {sp : Sp} (F : Fun K x qn st f fd) (S : FnScope N ps (defScope st))
    (len : ∀ vs H Q E, sp vs H Q E → vs.length = ps.length)
    (hb : ∀ (cv : Value) (A : Around) (out : List Env) (s : Shared) (H : Hp) (vs : List V) (Q : VK) (E : XK), Ng A →
      Room k (A.deeper (envOfC qn (defScope st) s.heap.objs.size f cv)) → sp vs H Q E →
      ∃ t, PSs (cxOf CX0 P w K mg base N qn (defScope st) f cv A out s H E).nox (defBody st) t ∧
        t { nx := fun _ H' => Q .non H', rt := Q } (start N vs) H) : FnG P w K mg base CX0 (k + 1) f fd ps sp := by
  obtain ⟨oc, od, kV, doc, pm, an, cv, ct, osl, rfl, lk, hc⟩ := F.ex
  refine gfn lk hc S len ?_
  intro A out s H vs Q E hg hr hsp
  obtain ⟨t, h, q⟩ := hb cv A out s H vs Q E hg hr hsp
  exact ⟨t, h.nox, q⟩
end

section
variable {X : Cx} {Z : CXT} {k : Nat} {f : Addr} {fd : FuncData} {ps : List Str} {sp : Sp} {dvs : List V} {ds : List Value}
  {E : XK} {x : Str} {p pos : Pos} {e : Expr} {es : List Expr} {t : TA}
/-- f(e, ..) of such a def -/
theorem pe_g (F : FnG X.prog X.w X.K X.mg X.base Z k f fd ps sp) (hr : Room k X.A) (ng : Ng X.A) (hg : Gl X x) (hm : X.mg x = some (.ref f))
    (hk : PySem.W.keepIn X.K (.ref f) = true) (hb : Binds X.K fd ps ds) (hd : Vals dvs ds) (hx : Passes Z X E) (ha : PA X (e :: es) t)
    (hdb : (x == ("__debug__" : Str)) = false := by decide)
    (he : starEach (e :: es) X.env = (false, eval e X.env) :: starEach es X.env := by rfl)
    (hpl : (backTo pos (starEach es X.env)).any (·.1) = false := by rfl) :
    PE X (.Call (.Name x p) (e :: es) [] pos) (tCall sp dvs E t) := by
  refine ⟨fun pins s σ H Q I h => ?_⟩
  refine wpAny_Call_Name_kw (ld_glob I hg hm ?_ hdb)
  refine PySem.W.callWith_K (h₀ := X.base) I.ok.mod.kin hk (thn (ha.run pos pins s σ H _ I h) ?_) he hpl
  rintro us s1 ⟨vs, H1, I1, r, q⟩
  refine ⟨I1.kIn, ?_⟩
  have r2 : Vals (vs ++ dvs) (us ++ ds) := r.append hd
  have L : (us ++ ds).length = ps.length := r2.length.symm.trans (F.len _ _ _ _ q)
  refine wpAny_call (codeAny_mono (F.go X.A X.stack s1 H1 ⟨us, []⟩ (us ++ ds) (vs ++ dvs) Q E hr ng I1.env0 (hb s1 us I1.kIn L) r2 q) ?_)
  intro r s' hq
  cases r with
  | error e => exact hx pins σ H1 s1 e s' I1 hq
  | ok fl =>
    cases fl with
    | ret u => exact I1.after hq
    | next => exact hq.elim
    | brk => exact hq.elim
    | cont => exact hq.elim
end

/-! what an abstract heap shows -/
mutual
/-- v is the data d -/
inductive Rp (K : PySem.W.Frag) (H : Hp) : V → PyData → Prop
  | non : Rp K H .non .none
  | bl (b : Bool) : Rp K H (.bl b) (.bool b)
  | int (i : Int) : Rp K H (.int i) (.int i)
  | str (x : Str) : Rp K H (.str x) (.str x)
  | lst {a : Addr} {xs : List V} {ds : List PyData} : SqL K H a xs → RpA K H xs ds → Rp K H (.ref a) (.list ds)
  | tup {a : Addr} {xs : List V} {ds : List PyData} : SqT K H a xs → RpA K H xs ds → Rp K H (.ref a) (.tuple ds)
  | dic {a : Addr} {kvs : List (Key × V)} {ds : List PyData} : H a = some (.dK kvs) → RpA K H (kvs.map (·.2)) ds →
      Rp K H (.ref a) (.dict ((kvs.map fun p => match p.1 with | .inl i => PyData.int i | .inr x => PyData.str x).zip ds))
inductive RpA (K : PySem.W.Frag) (H : Hp) : List V → List PyData → Prop
  | nil : RpA K H [] []
  | cons {v : V} {vs : List V} {d : PyData} {ds : List PyData} : Rp K H v d → RpA K H vs ds → RpA K H (v :: vs) (d :: ds)
end

theorem RpA.length {K : PySem.W.Frag} {H : Hp} : ∀ {vs : List V} {ds : List PyData}, RpA K H vs ds → vs.length = ds.length
  | _, _, .nil => rfl
  | _, _, .cons _ t => by rw [List.length_cons, List.length_cons, RpA.length t]

/-- tracked things stay -/
theorem same_seqT {K : PySem.W.Frag} {H H' : Hp} {a : Addr} {xs : List V} (e : Same H H') (h : SqT K H a xs) : SqT K H' a xs := by
  rcases h with (h | ⟨o, h⟩) | h
  · exact Or.inl (Or.inl (e _ _ h))
  · exact Or.inl (Or.inr ⟨o, e _ _ h⟩)
  · exact Or.inr h
mutual
theorem Rp.mono {K : PySem.W.Frag} {H H' : Hp} (e : Same H H') : ∀ {v : V} {d : PyData}, Rp K H v d → Rp K H' v d
  | _, _, .non => .non
  | _, _, .bl b => .bl b
  | _, _, .int i => .int i
  | _, _, .str x => .str x
  | _, _, .lst h r => .lst (e.seq h) (RpA.mono e r)
  | _, _, .tup h r => .tup (same_seqT e h) (RpA.mono e r)
  | _, _, .dic h r => .dic (e _ _ h) (RpA.mono e r)
theorem RpA.mono {K : PySem.W.Frag} {H H' : Hp} (e : Same H H') : ∀ {vs : List V} {ds : List PyData}, RpA K H vs ds → RpA K H' vs ds
  | _, _, .nil => .nil
  | _, _, .cons a t => .cons (Rp.mono e a) (RpA.mono e t)
end

/-- sys.modules stands in the heap as a dict -/
def Sys (h : Heap) : Prop := (∃ o es n, h.get? sysModules = some o ∧ o.data = .dict es n) ∧ h.NoLimit ∧ h.NoSeer

theorem pairs_keys {P : Program} {w : World} {h : Heap} : ∀ {es : List DictEntry} {kvs : List (Key × Value)}, Pairs (mixKind P w) es kvs →
    ReadsAll h (es.map (·.key)) (kvs.map fun p => match p.1 with | .inl i => PyData.int i | .inr x => PyData.str x) []
  | _, _, .nil => .nil
  | _, _, .cons (e := e) (kv := kv) hk _ t => by
    have r := pairs_keys (h := h) t
    rw [List.map_cons, List.map_cons]
    obtain ⟨k, v⟩ := kv
    have hk' : keyIs k e.key = true := hk
    rcases keyIs_shape hk' with ⟨i, t, rfl, e2⟩ | ⟨x, t, rfl, e2⟩
    · rw [e2]; exact ReadsAll.cons (as := []) (.int i t) r
    · rw [e2]; exact ReadsAll.cons (as := []) (.str x t) r
theorem pairs_vals {P : Program} {w : World} : ∀ {es : List DictEntry} {kvs : List (Key × Value)}, Pairs (mixKind P w) es kvs → es.map (·.val) = kvs.map (·.2)
  | _, _, .nil => rfl
  | _, _, .cons _ hv t => by rw [List.map_cons, List.map_cons, pairs_vals t, hv]
theorem kv_fst : ∀ {kvs : List (Key × V)} {vs : List (Key × Value)}, KV kvs vs → kvs.map (·.1) = vs.map (·.1)
  | _, _, .nil => rfl
  | _, _, .cons h t => by rw [List.map_cons, List.map_cons, kv_fst t, h.1]
theorem kv_snd : ∀ {kvs : List (Key × V)} {vs : List (Key × Value)}, KV kvs vs → Vals (kvs.map (·.2)) (vs.map (·.2))
  | _, _, .nil => .nil
  | _, _, .cons h t => .cons h.2 (kv_snd t)

section
variable {X : Cx} {pins : List (Addr × Obj)} {σ : L2.St} {H : Hp} {s : Shared}
theorem Inv.sys_ne (I : Inv X pins σ H s) (S : Sys X.base) {a : Addr} {o : HO} (h : H a = some o) : a ≠ sysModules := fun z => by
  obtain ⟨⟨ob, _, _, hb, _⟩, _⟩ := S
  have q := (I.bs _ _ hb).2
  rw [z] at h
  rw [h] at q
  cases q
theorem Inv.sys_seq (I : Inv X pins σ H s) (S : Sys X.base) {a : Addr} {o : Obj} {vs : Array Value} {n : Nat} (h : s.heap.get? a = some o) (d : o.data = .seq vs n) : a ≠ sysModules := fun z => by
  obtain ⟨⟨ob, es, m, hb, hd⟩, _⟩ := S
  have q := (I.bs _ _ hb).1
  rw [z, q] at h
  cases h
  rw [hd] at d
  cases d
mutual
theorem Rp.reads (I : Inv X pins σ H s) (S : Sys X.base) : ∀ {v : V} {d : PyData} {u : Value}, Rp X.K H v d → RelV v u →
    ∃ as, Reads s.heap u d as ∧ sysModules ∉ as
  | _, _, _, .non, r => ⟨[], by cases r; exact .none, List.not_mem_nil⟩
  | _, _, _, .bl b, r => ⟨[], by cases r; exact .bool b, List.not_mem_nil⟩
  | _, _, _, .int i, r => ⟨[], by obtain ⟨t, rfl⟩ := r; exact .int i t, List.not_mem_nil⟩
  | _, _, _, .str x, r => ⟨[], by obtain ⟨t, rfl⟩ := r; exact .str x t, List.not_mem_nil⟩
  | _, _, _, .lst (a := a) h q, r => by
    cases r
    obtain ⟨its, rv, ⟨o, n, ho, hc, _, hd⟩, _⟩ := I.list h
    obtain ⟨as, ra, na⟩ := RpA.reads I S q rv
    refine ⟨a :: as, .list ho hc hd (by simpa using ra), fun z => ?_⟩
    rcases List.mem_cons.mp z with z | z
    · exact Inv.sys_seq I S ho hd z.symm
    · exact na z
  | _, _, _, .tup (a := a) h q, r => by
    cases r
    obtain ⟨its, rv, ⟨o, ho, hc, n, hd⟩, _⟩ := I.tuple h
    obtain ⟨as, ra, na⟩ := RpA.reads I S q rv
    exact ⟨as, .tuple ho hc hd (by simpa using ra), na⟩
  | _, _, _, .dic (a := a) (kvs := kvs) (ds := ds) h q, r => by
    cases r
    obtain ⟨hl, hn, vs, kv, o, es, ep, ho, hx, hd, _, hp, _⟩ := I.hok a _ h
    obtain ⟨as, ra, na⟩ := RpA.reads I S q (kv_snd kv)
    have hlen : (kvs.map fun p => match p.1 with | .inl i => PyData.int i | .inr x => PyData.str x).length = ds.length := by
      rw [List.length_map, ← RpA.length q, List.length_map]
    have ek : (kvs.map fun p => match p.1 with | .inl i => PyData.int i | .inr x => PyData.str x) = (vs.map fun p => match p.1 with | .inl i => PyData.int i | .inr x => PyData.str x) := by
      have := congrArg (List.map fun k : Key => match k with | .inl i => PyData.int i | .inr x => PyData.str x) (kv_fst kv)
      simpa [List.map_map, Function.comp_def] using this
    refine ⟨a :: [] ++ as, .dict (n := ep) (es := es) ho hx.1 hd ?_ ?_, fun z => ?_⟩
    · rw [List.map_fst_zip (by rw [hlen]; exact Nat.le_refl _), ek]
      exact pairs_keys hp
    · rw [List.map_snd_zip (by rw [hlen]; exact Nat.le_refl _), pairs_vals hp]
      exact ra
    · rcases List.mem_cons.mp z with z | z
      · rw [← z] at hn
        exact absurd hn (by decide)
      · exact na z
theorem RpA.reads (I : Inv X pins σ H s) (S : Sys X.base) : ∀ {vs : List V} {ds : List PyData} {us : List Value}, RpA X.K H vs ds → Vals vs us →
    ∃ as, ReadsAll s.heap us ds as ∧ sysModules ∉ as
  | _, _, _, .nil, r => by cases r; exact ⟨[], .nil, List.not_mem_nil⟩
  | _, _, _, .cons h t, r => by
    cases r with
    | cons r1 r2 =>
      obtain ⟨a1, q1, n1⟩ := Rp.reads I S h r1
      obtain ⟨a2, q2, n2⟩ := RpA.reads I S t r2
      exact ⟨a1 ++ a2, .cons q1 q2, fun z => (List.mem_append.mp z).elim n1 n2⟩
end
/-- repr of a list, a tuple, a dict -/
theorem call_repr (S : Sys X.base) (ng : Ng X.A) (hu : X.A.units + 64 < cLine) : CallR X (.builtin "repr") (fun xs H Q => ∃ a d, xs = [.ref a] ∧ Rp X.K H (.ref a) d ∧
    d.showable = true ∧ d.depth < 60 ∧ d.shown.length ≤ sizeLine ∧ Q (.str d.shown) H) := by
  intro pins s σ H xs us Q I r h
  obtain ⟨a, d, rfl, hr, hs, hd, hz, q⟩ := h
  obtain ⟨u, rfl, ru⟩ := vals1 r
  cases ru
  obtain ⟨as, ra, na⟩ := Rp.reads I S hr (show RelV (V.ref a) (Value.ref a) from rfl)
  refine repr_of_reads' ra hs (fun _ => na) ng (by omega) (fun _ _ z => z) (fun h' u tk hk => ?_) hz
  exact ⟨.str _, H, I.kept hk, ⟨_, rfl⟩, q⟩
end
end Vx
namespace Vx
open PySem PySem.Spec PyProof.Rows L2

theorem sys_of {h : Heap} (n : h.NoSeer) (l : h.NoLimit) : Sys h := by
  obtain ⟨mm, ⟨o, es, ep, ho, hd, _⟩, _⟩ := n.mods
  exact ⟨⟨o, es, ep, ho, hd⟩, l, n⟩
theorem noseer_hid {h h' : Heap} (n : h.NoSeer) (nsB : ∀ {b : Addr} {m : Str → Option Value}, h.Ns b m → h'.Ns b m) (md : ∀ b o, h.get? b = some o → o.cls = .type "module" → h'.get? b = some o) : h'.NoSeer where
  statics := let ⟨mc, a, b⟩ := n.statics; ⟨mc, nsB a, b⟩
  mods := let ⟨mc, a, b⟩ := n.mods; ⟨mc, nsB a, b⟩
  imp := let ⟨mc, a, b⟩ := n.imp; ⟨mc, nsB a, b⟩
  main := let ⟨mg, bm, ob, a, b, c, d, e⟩ := n.main; ⟨mg, bm, ob, nsB a, b, md _ _ c d, d, e⟩

/-- from any abstract heap that holds the script alone -/
theorem call_end {P : Program} {w : World} {K : PySem.W.Frag} {mg mb : Str → Option Value} {k : Nat} {fa a : Addr} {fd : FuncData} {x : Str} {sp : Sp}
    {s₁ : Shared} {vs : List Value} {xs : List V} {H : Hp} (KX : K.In s₁.heap) (hns : s₁.heap.Ns mainGlobals mg) (hb : s₁.heap.Ns builtinsNs mb)
    (hbb : ∀ x : Str, x ≠ "__name__" → mb x = bootBuiltins x) (lim : s₁.heap.NoLimit) (sy : Sys s₁.heap) (hg : s₁.gens = #[])
    (ha : s₁.heap.get? a = some { cls := .type "list", data := .seq vs.toArray }) (hr : Room k callerA)
    (F : ∀ base : Heap, K.In base → base.Ns mainGlobals mg → Sys base → FnG P w K mg base CX0 k fa fd [x] sp)
    (hbind : ∀ (s : Shared) (u : Value), BindsTo s fd ⟨[u], []⟩ [(x, u)])
    (hsp : sp [.ref a] H (fun v _ => v = .bl true) fun _ _ _ => False) (hO : Only H) (ok : HOk P w H s₁.heap)
    (only : ∀ b, H b ≠ none → b = a) (hK : H a ≠ none → K.lookup a = none) :
    codeAny (model P w) callerA (.call (.ref fa) ⟨[.ref a], []⟩)
      (fun r s' => r = .ok (.ret (.bool true)) ∧ OldK s₁.heap s'.heap ∧ s'.os = s₁.os ∧ AllBare s'.gens) s₁ := by
  have nd : ∀ {b : Addr} {o : Obj} {es : Array DictEntry} {ep : Nat}, s₁.heap.get? b = some o → o.data = .dict es ep → H b = none := by
    intro b o es ep e d
    cases q : H b with
    | none => rfl
    | some u =>
      have z := only b (by rw [q]; exact fun z => nomatch z)
      rw [z, ha] at e
      cases e
      cases (show Data.seq vs.toArray _ = Data.dict es ep from d)
  have nsB : ∀ {b : Addr} {m : Str → Option Value}, s₁.heap.Ns b m → (hidT s₁.heap H).Ns b m := by
    rintro b m ⟨o, es, ep, e, d, r⟩
    exact ⟨o, es, ep, hidT_get e (nd e d), d, r⟩
  have kB : K.In (hidT s₁.heap H) := by
    intro b o e
    refine hidT_get (KX b o e) ?_
    cases q : H b with
    | none => rfl
    | some u =>
      have z := only b (by rw [q]; exact fun z => nomatch z)
      rw [z] at q e
      rw [hK (by rw [q]; exact fun z => nomatch z)] at e
      cases e
  have sB : Sys (hidT s₁.heap H) := by
    obtain ⟨⟨o, es, n, e, d⟩, ⟨mc, h1, h2⟩, sn⟩ := sy
    refine ⟨⟨o, es, n, hidT_get e (nd e d), d⟩, ⟨mc, nsB h1, h2⟩, noseer_hid sn nsB fun b o e2 hc => hidT_get e2 ?_⟩
    cases q : H b with
    | none => rfl
    | some u =>
      have z := only b (by rw [q]; exact fun z => nomatch z)
      rw [z, ha] at e2
      cases e2
      exact absurd (Value.type.inj hc) (by decide)
  have md : Mod K mg (hidT s₁.heap H) := ⟨kB, nsB hns, ⟨mb, nsB hb, hbb⟩, let ⟨mc, h1, h2⟩ := lim; ⟨mc, nsB h1, h2⟩⟩
  have e0 : Env0 P w K mg (hidT s₁.heap H) callerA [] s₁ H :=
    ⟨rfl, md, fun b o e => of_hidT e, Nat.le_of_eq (hidT_size _ _), trivial, fun b z => absurd z List.not_mem_nil, ok, .of_eq hg⟩
  refine codeAny_mono ((F _ kB (nsB hns) sB).go callerA [] s₁ H ⟨[.ref a], []⟩ [.ref a] [.ref a] _ _ hr rfl e0 (hbind s₁ (.ref a)) (.cons rfl .nil) hsp) ?_
  intro r s' h
  cases r with
  | error e => exact h.elim
  | ok fl =>
    cases fl with
    | next => exact h.elim
    | brk => exact h.elim
    | cont => exact h.elim
    | ret u =>
      obtain ⟨v, H', os, bare, un, ok', r', q⟩ := h
      have q' : v = .bl true := q
      subst q'
      obtain rfl : u = Value.bool true := r'
      refine ⟨rfl, OldK.of_keep fun b o e => ?_, os, bare⟩
      rcases hO b with z | ⟨ob, ys, z⟩
      · exact un.keep b o e z List.not_mem_nil List.not_mem_nil
      · obtain ⟨e1, _⟩ := ok b _ z
        obtain ⟨e2, _⟩ := ok' b _ (un.frzs b ob _ z)
        rw [e] at e1
        cases e1
        exact e2

theorem law_end {P : Program} {w : World} {K : PySem.W.Frag} {mg mb : Str → Option Value} {k : Nat} {fa a : Addr} {fd : FuncData} {x : Str} {sp : Sp}
    {s₁ : Shared} {vs : List Value} {ns : List Int} (KX : K.In s₁.heap) (hns : s₁.heap.Ns mainGlobals mg) (hb : s₁.heap.Ns builtinsNs mb)
    (hbb : ∀ x : Str, x ≠ "__name__" → mb x = bootBuiltins x) (lim : s₁.heap.NoLimit) (sy : Sys s₁.heap) (hg : s₁.gens = #[])
    (ha : s₁.heap.get? a = some { cls := .type "list", data := .seq vs.toArray }) (hi : IntsAre vs ns) (hl : ns.length ≤ sizeLine) (hr : Room k callerA)
    (F : ∀ base : Heap, K.In base → base.Ns mainGlobals mg → Sys base → FnG P w K mg base CX0 k fa fd [x] sp)
    (hbind : ∀ (s : Shared) (u : Value), BindsTo s fd ⟨[u], []⟩ [(x, u)])
    (hsp : ∀ H : Hp, SqL K H a (ns.map V.int) → sp [.ref a] H (fun v _ => v = .bl true) fun _ _ _ => False) :
    codeAny (model P w) callerA (.call (.ref fa) ⟨[.ref a], []⟩)
      (fun r s' => r = .ok (.ret (.bool true)) ∧ OldK s₁.heap s'.heap ∧ s'.os = s₁.os ∧ AllBare s'.gens) s₁ := by
  have rv := vals_ints hi
  have lv := hi.length
  have hl' : (ns.map V.int).length ≤ sizeLine := by rw [List.length_map]; exact hl
  cases hk : K.lookup a with
  | some o =>
    have e := KX a o hk
    rw [ha] at e
    cases e
    have sq : SqL K (fun _ => none) a (ns.map V.int) := Or.inr ⟨_, vs.toArray, _, hk, rfl, rfl, rfl, by rw [List.size_toArray, lv]; exact hl, by simpa using rv⟩
    have no : ∀ (b : Addr) (u : HO), ¬ ((fun _ : Addr => (none : Option HO)) b = some u) := fun b u z => nomatch z
    exact call_end (xs := ns.map V.int) (H := fun _ => none) KX hns hb hbb lim sy hg ha hr F hbind (hsp _ sq) (fun _ => Or.inl rfl) (fun b u z => absurd z (no b u)) (fun b z => absurd rfl z) fun z => absurd rfl z
  | none =>
    have at_a : (fun b : Addr => if b = a then some (HO.frz { cls := .type "list", data := .seq vs.toArray } (.lst (ns.map V.int))) else none) a = some (HO.frz { cls := .type "list", data := .seq vs.toArray } (.lst (ns.map V.int))) := if_pos rfl
    have off : ∀ b : Addr, b ≠ a → (fun b : Addr => if b = a then some (HO.frz { cls := .type "list", data := .seq vs.toArray } (.lst (ns.map V.int))) else none) b = none := fun b h => if_neg h
    generalize (fun b : Addr => if b = a then some (HO.frz { cls := .type "list", data := .seq vs.toArray } (.lst (ns.map V.int))) else none) = H at at_a off
    have sq : SqL K H a (ns.map V.int) := Or.inl (Or.inr ⟨_, at_a⟩)
    refine call_end (xs := ns.map V.int) (H := H) KX hns hb hbb lim sy hg ha hr F hbind (hsp _ sq) (fun b => ?_) (fun b u z => ?_) (fun b z => ?_) fun _ => hk
    · by_cases h : b = a
      · exact Or.inr ⟨_, _, by rw [h]; exact at_a⟩
      · exact Or.inl (off b h)
    · by_cases h : b = a
      · subst h
        rw [at_a] at z
        cases z
        exact ⟨ha, hl', vs, _, rv, ha⟩
      · rw [off b h] at z
        cases z
    · by_cases h : b = a
      · exact h
      · exact absurd (off b h) z

/-- the goal that k_head leaves, from the promise of law's def -/
theorem walk_g {l : PySem.W.OpenLaw} {n k : Nat} {q : Program} {loose : List Str} {XP : (Str → Option Value) → Heap → Prop} {YP : World → Heap → Prop}
    {d : DefRec} {K : Params → PySem.W.Frag} {sp : World → Sp} {x : Str} (hn : l.most = some n) (hn2 : n ≤ sizeLine) (hdf : d.params.defaults = [])
    (hr : Room k callerA) (him : importsNone q = true) (hY : ∀ (w : World) (h : Heap), YP w h → (K w.params).In h)
    (F : ∀ (w : World) (mg : Str → Option Value) (fa : Addr) (h : Heap), (K w.params).In h → h.Ns mainGlobals mg → mg d.name = some (.ref fa) →
      ∃ fd : FuncData, (∀ (s : Shared) (u : Value), BindsTo s fd ⟨[u], []⟩ [(x, u)]) ∧
        ∀ base : Heap, (K w.params).In base → base.Ns mainGlobals mg → Sys base → FnG l.prog w (K w.params) mg base CX0 k fa fd [x] (sp w))
    (hsp : ∀ (w : World) (H : Hp) (a : Addr) (ns : List Int), ns.length ≤ n → SqL (K w.params) H a (ns.map V.int) →
      sp w [.ref a] H (fun v _ => v = .bl true) fun _ _ _ => False) :
    PySem.W.WalkO q loose XP YP l.row.toRowW d [] (fun f vs => PySem.call f vs) := by
  refine Att.attach_call hn hdf ?_
  intro w s₀ s₁ mg mb fa o pm cd doc a vs ns G Y ho hd hcd hmg hobj hints hlen hg
  have KX := hY w _ Y
  obtain ⟨fd, hb, hF⟩ := F w mg fa _ KX G.T.g hmg
  exact law_end KX G.T.g G.T.b G.T.builtins G.T.nolimit (sys_of (G.T.seer him) G.T.nolimit) hg hobj hints (Nat.le_trans hlen hn2) hr hF hb (fun H hS => hsp w H a ns hlen hS)
end Vx
namespace Vx
open PySem PySem.Spec PyProof.Rows L2

/-- the def x of the text stands behind the top -/
def FunIn (K : PySem.W.Frag) (mg : Str → Option Value) (x : Str) (st : Stmt) : Prop := ∃ f fd, Fun K x x st f fd ∧ mg x = some (.ref f)
theorem funIn {K : PySem.W.Frag} {h : Heap} {mg : Str → Option Value} {x : Str} {st : Stmt} (X : K.In h) (G : h.Ns mainGlobals mg) {f : Addr} {oc kV dc pm cd ct : Value} {od an : Option Addr} {sl : Array (Option Value)}
    (a : PySem.W.nsIn K mainGlobals x = some (some (.ref f)))
    (l : K.lookup f = some ⟨oc, od, .func (PySem.W.fnOf x x (defArgs st) (defBody st) (defScope st) .none kV dc pm an cd ct), sl⟩)
    (c : PySem.W.codeIn K cd x = true) (k : PySem.W.keepIn K (.ref f) = true) : FunIn K mg x st :=
  ⟨f, _, fun_mk (st := st) l c k, PySem.W.mg_of X G a⟩

/-- a def that keeps its promise, by its name -/
structure Df (P : Program) (w : World) (K : PySem.W.Frag) (mg : Str → Option Value) (base : Heap) (x : Str) (k : Nat) (ps : List Str) (sp : Sp) : Prop where
  ex : ∃ f fd, FnOk P w K mg base CX0 k f fd ps sp ∧ mg x = some (.ref f) ∧ PySem.W.keepIn K (.ref f) = true ∧ Binds K fd ps []
structure Dg (P : Program) (w : World) (K : PySem.W.Frag) (mg : Str → Option Value) (base : Heap) (x : Str) (k : Nat) (ps : List Str) (sp : Sp) : Prop where
  ex : ∃ f fd, FnG P w K mg base CX0 k f fd ps sp ∧ mg x = some (.ref f) ∧ PySem.W.keepIn K (.ref f) = true ∧ Binds K fd ps []
section
variable {X : Cx} {k : Nat} {ps : List Str} {sp : Sp} {x : Str} {p pos : Pos} {e : Expr} {es : List Expr} {t : TA}
theorem pe_d (D : Df X.prog X.w X.K X.mg X.base x k ps sp) (hr : Room k X.A) (hg : Gl X x) (ha : PA X (e :: es) t)
    (hdb : (x == ("__debug__" : Str)) = false := by decide)
    (he : starEach (e :: es) X.env = (false, eval e X.env) :: starEach es X.env := by rfl)
    (hpl : (backTo pos (starEach es X.env)).any (·.1) = false := by rfl) :
    PE X (.Call (.Name x p) (e :: es) [] pos) (tCall sp [] E0 t) := by
  obtain ⟨f, fd, F, hm, hk, hb⟩ := D.ex
  exact pe_call F hr hg hm hk hb .nil pass0 ha hdb he hpl
theorem pe_d0 (D : Df X.prog X.w X.K X.mg X.base x k ps sp) (hr : Room k X.A) (hg : Gl X x)
    (hdb : (x == ("__debug__" : Str)) = false := by decide) : PE X (.Call (.Name x p) [] [] pos) (tCall sp [] E0 tNil) := by
  obtain ⟨f, fd, F, hm, hk, hb⟩ := D.ex
  exact pe_call0 F hr hg hm hk hb .nil pass0 hdb
theorem pe_dg (D : Dg X.prog X.w X.K X.mg X.base x k ps sp) (hr : Room k X.A) (ng : Ng X.A) (hg : Gl X x) (ha : PA X (e :: es) t)
    (hdb : (x == ("__debug__" : Str)) = false := by decide)
    (he : starEach (e :: es) X.env = (false, eval e X.env) :: starEach es X.env := by rfl)
    (hpl : (backTo pos (starEach es X.env)).any (·.1) = false := by rfl) :
    PE X (.Call (.Name x p) (e :: es) [] pos) (tCall sp [] E0 t) := by
  obtain ⟨f, fd, F, hm, hk, hb⟩ := D.ex
  exact pe_g F hr ng hg hm hk hb .nil pass0 ha hdb he hpl
end
theorem hu64 {A : Around} {k : Nat} (hr : Room k A) : A.units + 64 < cLine := hr.units

/-- the built-in names that the text leaves as they are -/
structure Bls (mg : Str → Option Value) : Prop where
  n_int : mg "int" = none
  n_len : mg "len" = none
  n_abs : mg "abs" = none
  n_divmod : mg "divmod" = none
  n_range : mg "range" = none
  n_min : mg "min" = none
  n_max : mg "max" = none
  n_all : mg "all" = none
  n_repr : mg "repr" = none
  n_isinstance : mg "isinstance" = none

/-! ### the reel -/
/-- a reel stands at a -/
def RlAt (a : Addr) (H : Hp) : Prop := ∃ x y z : Int, H a = some (.lst [.int x, .int y, .int z])
/-- all but a stays -/
def But (a : Addr) (H H' : Hp) : Prop := ∀ b o, H b = some o → b ≠ a → H' b = some o
theorem but_trans {a : Addr} {H H1 H2 : Hp} (p : But a H H1) (q : But a H1 H2) : But a H H2 := fun b o e n => q b o (p b o e n) n
theorem but_refl (a : Addr) (H : Hp) : But a H H := fun _ _ e _ => e
theorem same_but {H H' : Hp} (a : Addr) (e : Same H H') : But a H H' := fun b o h _ => e b o h
theorem but_upd {a : Addr} {H : Hp} {o : HO} : But a H (upd H a o) := fun b o e n => by rw [upd_ne n]; exact e
theorem but_new {a p : Addr} {H : Hp} {o : HO} (h : H p = none) : But a H (upd H p o) := fun b u e n => by
  rw [upd_ne (ne_of_none e h)]; exact e
theorem same_new {p : Addr} {H : Hp} {o : HO} (h : H p = none) : Same H (upd H p o) := fun b u e => by
  rw [upd_ne (ne_of_none e h)]; exact e

/-- _law_pull: a number from 0 on and below the second argument; the reel has gone on -/
def spPull : Sp := fun vs H Q _ => ∃ (a : Addr) (m : Int), vs = [.ref a, .int m] ∧ RlAt a H ∧ 0 < m ∧ m < 1000000 ∧
  ∀ (d : Int) (H' : Hp), 0 ≤ d → d < m → RlAt a H' → But a H H' → Q (.int d) H'

theorem divp_small {i j : Int} (h0 : 0 < j) (h1 : j < 1000000) : CDivP i j := ⟨h0, PyProof.noPylong_small (by omega)⟩
end Vx
namespace PySem
namespace VxE
open PySem.W PySem.Calls PyProof.Rows PySem.HandSPX
section
variable {M : Model} {A : Around} {E : Value → Shared → Prop} {h : Heap} {g : Array GenState} {d : Drawn} {t : Nat} {os : OsState}
  {nm q : Str} {C N : Addr} {bs bm bmB : List Value} {hd : Bool} {sn : List Str} {sub : List Value} {ab : Bool} {col : Option Bool}
  {dd : Option Addr} {k0 k1 k2 k3 k5 : Option Value} {B ni ii : String} {n : Str} {v : Value}
theorem new_check (F : ExcBaseFacts B ni ii bmB) (hT : ∀ X : String, bm.contains (.type X) = bmB.contains (.type X)) {Q : Unit → Shared → Prop}
    (hC : h.get? C = some (excClassObj nm q C N bs bm hd sn sub ab col dd k0 k1 k2 k3 k5 ni)) (hq : Q () ⟨h, g, d, t, os⟩) :
    wpAny M A (checkBuiltinCall ni ⟨[.ref C], [(n, v)]⟩) Q E ⟨h, g, d, t, os⟩ := by
  have c1 : (Value.ref C :: bm).contains (.type B) = true := by
    rw [List.contains_cons, hT, F.hasB]
    exact Bool.or_true _
  have c2 := F.noStar
  simp only [checkBuiltinCall, F.newKind, F.newSplit, F.newRow]
  repeat (first | refine wpAny_loadPart_at hC ?_ | (refine wpAny_isSubtype_exc hC ?_; rw [c1]) | refine wpAny_staticBase_exc hC ?_ | refine wpAny_madeBy_exc hC ?_ | simp only [bne_self_eq_false, Bool.false_eq_true, if_false] | wp_step)
  exact hq
end
section
variable {prog : Program} {w : World} {A : Around} {E : Value → Shared → Prop} {R : Result → Shared → Prop} {h : Heap} {g : Array GenState} {d : Drawn} {t : Nat} {os : OsState}
  {nm q : Str} {C N : Addr} {bs bm bmB : List Value} {hd : Bool} {sn : List Str} {sub : List Value} {ab : Bool} {col : Option Bool}
  {dd : Option Addr} {k0 k1 k2 k3 k5 : Option Value} {B ni ii : String} {n : Str} {v : Value}
theorem new_kw (F : ExcBaseFacts B ni ii bmB) (hT : ∀ X : String, bm.contains (.type X) = bmB.contains (.type X))
    (hC : h.get? C = some (excClassObj nm q C N bs bm hd sn sub ab col dd k0 k1 k2 k3 k5 ni))
    (hq : R (.ok (.ret (.ref (h.objs.size + 1)))) ⟨(h.push (W.kdv_tup [])).push (excO C h.objs.size), g, d, t, os⟩) :
    codeAny (model prog w) A (.builtin ni ⟨[.ref C], [(n, v)]⟩) R ⟨h, g, d, t, os⟩ := by
  have hends := F.ends
  have c1 : (Value.ref C :: bm).contains (.type B) = true := by
    rw [List.contains_cons, hT, F.hasB]
    exact Bool.or_true _
  have c2 : (Value.ref C :: bm).contains (.type "AttributeError") = false := by
    rw [List.contains_cons, hT, F.noAttr]
    rfl
  have c3 : (Value.ref C :: bm).contains (.type "NameError") = false := by
    rw [List.contains_cons, hT, F.noName]
    rfl
  have hz : ([] : List Value).length ≤ sizeLine := Nat.zero_le _
  refine codeAny_builtinAt F.entry ?_
  unfold Builtin.«BaseException.__new__»
  refine wpAt_bind ?_
  show wpAt _ _ _ (stack >>= _) _ _ _
  refine wpAt_bind (wpAt_stack fun p below => wpAt_of_wpAny ?_)
  wp_walk
  refine wpAt_of_wpAny ?_
  rw [F.owner]
  repeat (first | with_reducible refine wpAny_madeHere_exc F.canon hC ?_ | with_reducible refine wpAny_loadPart_at hC ?_ | (with_reducible refine wpAny_isSubtype_exc hC ?_; first | rw [c1] | rw [c2] | rw [c3]) | wp_step)
  show R _ _
  rw [Heap.size_push]
  exact hq
theorem type_kw (F : ExcBaseFacts B ni ii bmB) (hT : ∀ X : String, bm.contains (.type X) = bmB.contains (.type X)) {fI : Addr} {Q : Fin → Shared → Prop}
    (hC : h.get? C = some (excClassObj nm q C N bs bm hd sn sub ab col dd k0 k1 k2 k3 k5 ni))
    (hi : W.Looks (model prog w) h (typeLookup (.ref C) "__init__") (some (.ref fI)))
    (hb : ∀ self, W.Looks (model prog w) h (bindSpecial (.ref fI) self) (.ref fI, [self]))
    (hq : codeAny (model prog w) A (.call (.ref fI) ⟨[.ref (h.objs.size + 1)], [(n, v)]⟩)
      (fun r s' => match r with
        | .ok (.ret v) => v = .none ∧ Q (.done (.ret (.ref (h.objs.size + 1)))) s'
        | .ok _ => False
        | .error e => E e s') ⟨(h.push (W.kdv_tup [])).push (excO C h.objs.size), g, d, t, os⟩) :
    wpAny (model prog w) A (Builtin.«type.__call__» ⟨[.ref C], [(n, v)]⟩) Q E ⟨h, g, d, t, os⟩ := by
  repeat (first | with_reducible refine wpAny_loadPart_at hC ?_ | with_reducible refine wpAny_madeBy_exc hC ?_ | wp_step)
  refine codeAny_call_builtin_code (Code.quiet_builtin _ F.quiet) (new_check F hT hC ?_)
  refine new_kw F hT hC ?_
  show wpAny _ _ _ _ _ _
  have k : ∀ b o, h.get? b = some o → ((h.push (W.kdv_tup [])).push (excO C h.objs.size)).get? b = some o :=
    fun b o e => Heap.get?_push_of_some _ (Heap.get?_push_of_some _ e)
  have hC1 := k _ _ hC
  have hg : ((h.push (W.kdv_tup [])).push (excO C h.objs.size)).get? (h.objs.size + 1) = some (excO C h.objs.size) := by heap_get
  have hcC : (Value.ref C :: bm).contains (.ref C) = true := by simp
  have i1 := hi.keeps k
  have b1 := (hb (.ref (h.objs.size + 1))).keeps k
  unfold isInstance
  repeat (first | with_reducible refine wpAny_loadPart_at hg ?_ | (with_reducible refine wpAny_isSubtype_exc hC1 ?_; rw [hcC]) | wp_step)
  show wpAny _ _ (typeLookup (.ref C) _) _ _ _
  refine i1.at ?_
  refine wpAny_holding (wpAny_bind (b1.at ?_))
  refine wpAny_bind (wpAny_call (codeAny_mono hq fun r s' z => ?_))
  rcases r with e | (v | _ | _ | _) <;> first | exact z | exact z.elim | skip
  obtain ⟨rfl, z⟩ := z
  first
    | exact wpAny_pure (wpAny_pure z)
    | (wp_walk; exact z)
theorem call_kw (F : ExcBaseFacts B ni ii bmB) (hT : ∀ X : String, bm.contains (.type X) = bmB.contains (.type X)) {fI : Addr}
    (hC : h.get? C = some (excClassObj nm q C N bs bm hd sn sub ab col dd k0 k1 k2 k3 k5 ni))
    (hi : W.Looks (model prog w) h (typeLookup (.ref C) "__init__") (some (.ref fI)))
    (hb : ∀ self, W.Looks (model prog w) h (bindSpecial (.ref fI) self) (.ref fI, [self]))
    (hq : codeAny (model prog w) (A.under (.builtin "type.__call__" ⟨[.ref C], [(n, v)]⟩)) (.call (.ref fI) ⟨[.ref (h.objs.size + 1)], [(n, v)]⟩)
      (W.InitBack (h.objs.size + 1) R) ⟨(h.push (W.kdv_tup [])).push (excO C h.objs.size), g, d, t, os⟩) :
    codeAny (model prog w) A (.call (.ref C) ⟨[], [(n, v)]⟩) R ⟨h, g, d, t, os⟩ := by
  have f1 := tc_lookup
  have f2 := tc_bind (.ref C)
  have ty : (⟨h, g, d, t, os⟩ : Shared).TypeIs (.ref C) "type" := ⟨_, hC, rfl⟩
  refine codeAny_of_tree ?_
  show wpAny _ _ (callAny (.ref C) _) _ _ _
  repeat (any_goals (first | assumption | with_reducible refine wpAny_loadPart_at hC ?_ | wp_step))
  refine ⟨rfl, ?_⟩
  refine codeAny_call_builtin_at (Code.quiet_builtin _ (by decide +kernel)) entry_typeCall (wpAny_check_type_call_sub hC (type_kw F hT hC hi hb ?_))
  refine codeAny_mono hq fun r s' z => ?_
  rcases r with e | (v | _ | _ | _) <;> exact z
end
end VxE
end PySem
namespace PySem
namespace VxE
open PySem.W PySem.Calls PyProof.Rows PySem.Spec
section
variable {prog : Program} {w : World} {A : Around} {E : Value → Shared → Prop} {s : Shared} {K : Frag} {x D : Addr} {ox : Obj} {od : Option Obj}
theorem find_class {C : Addr} {name : Str} {a g : Value} (hc : (clsIn K C).isSome = true) (ha : findIn K (.ref C) name = some (some a))
    (hg : specialIn K a "__get__" = some (some g)) (ht : takesIn K a = some true) : findObj K C od name = some (.bind g a) := by
  obtain ⟨cd, hc⟩ := Option.isSome_iff_exists.mp hc
  unfold findObj
  rw [hc, Option.bind_some, ha, Option.bind_some]
  simp [hg, ht]
theorem get_cls {Q : Option Value → Shared → Prop} (h1 : findIn K (.ref D) "__getattribute__" = some (some (.builtin "BaseException.__getattribute__")))
    (h2 : findIn K (.ref D) "__getattr__" = some none) (h3 : subIn K (.ref D) (.type "BaseException") = some true) (h4 : hasDictIn K D = true)
    (h5 : findIn K (.ref D) "__class__" = some (some (.builtin "object.__class__")))
    (h6 : specialIn K (.builtin "object.__class__") "__get__" = some (some (.builtin "getset_descriptor.__get__")))
    (h7 : takesIn K (.builtin "object.__class__") = some true) (h8 : mroIn K D (.type "object") = some true) (X : K.In s.heap)
    (I : W.InstAt s.heap x ox D od) (h : Q (some (.ref D)) { s with toks := s.toks + 1 }) :
    wpAny (model prog w) A (getAttr? (.ref x) "__class__") Q E s := by
  have hf : findObj K D od "__class__" = some (.bind (.builtin "getset_descriptor.__get__") (.builtin "object.__class__")) :=
    find_class (by obtain ⟨cd, hc, _⟩ := any_some h4; rw [hc]; rfl) h5 h6 h7
  obtain ⟨hp, g, d, t, os⟩ := s
  have L0 := I.type (M := model prog w)
  have L1 := looks_findIn (M := model prog w) X h1
  have L2 := looks_findIn (M := model prog w) X h2
  have L3 := looks_find (M := model prog w) X I hf
  have sub : Looks (model prog w) hp (isInstance (.ref x) (.type "BaseException")) true := L0.andThen (looks_subIn X h3)
  have e0 : (false && onTheHeap (Value.builtin "BaseException.__getattribute__")) = false := rfl
  have e2 : (Value.builtin "BaseException.__getattribute__" == Value.builtin "object.__getattribute__") = false := by decide +kernel
  have e1 : (onTheHeap (Value.ref D) && Value.builtin "BaseException.__getattribute__" == Value.builtin "object.__getattribute__") = false := by
    rw [e2]
    rfl
  unfold getAttr? getAttrBy? getAttrBy
  refine wpAny_bind (wpAny_mkText (wpAny_bind (wpAny_attempt (wpAny_holding (wpAny_bind (L0.at (wpAny_bind (L1.at ?_))))))))
  show wpAny _ _ (if (onTheHeap (Value.ref D) && Value.builtin "BaseException.__getattribute__" == Value.builtin "object.__getattribute__") = true then _ else _) _ _ _
  rw [e1, if_neg Bool.false_ne_true]
  unfold getAttrByItsOwn hookBefore
  refine wpAny_bind ?_
  rw [if_pos (show onTheHeap (Value.ref D) = true from rfl)]
  refine L2.at (wpAny_bind (wpAny_attempt (wpAny_holding ?_)))
  unfold callGetattribute
  rw [e0, if_neg Bool.false_ne_true]
  unfold boundAndCalled
  rw [PySem.F.excAttr_ValueError.ga.bind (.ref x)]
  refine wpAny_bind (wpAny_pure ?_)
  refine wpAny_call (codeAny_call_builtin PySem.F.excAttr_ValueError.ga.plain PySem.F.entry_bexc_ga ?_)
  refine @check_slot (model prog w) _ _ ⟨hp, g, d, t + 1, os⟩ "BaseException.__getattribute__" "BaseException" "__getattribute__" (.ref x)
    [.str "__class__" t] [] _ (by decide +kernel) (by decide +kernel) sub (PySem.F.args_bexc_ga (.ref x) (.str "__class__" t)) ?_
  unfold Builtin.«object.__getattribute__»
  refine wpAny_bind (wpAny_of_eq (a := ((Value.ref x : Value), [Value.str "__class__" t])) (by first | rfl | (simp only [slotArgs]; rfl)) ?_)
  refine wpAny_bind (wpAny_pure (wpAny_bind (L0.at (wpAny_bind (L3.at ?_)))))
  refine wpAny_bind (wpAny_holding (wpAny_call (class_get (s := ⟨hp, g, d, t + 1, os⟩) (ox := ox) (od := od) X I h8 (wpAny_pure ?_))))
  show wpAny _ _ (handedOut (.ref D)) _ _ _
  rw [handedOut_of (v := .ref D) rfl]
  first
    | exact wpAny_pure (wpAny_pure h)
    | exact wpAny_pure h
    | exact wpAny_pure (wpAny_bind (wpAny_pure (wpAny_pure h)))

theorem kit_exc (h1 : findIn K (.ref D) "__getattribute__" = some (some (.builtin "BaseException.__getattribute__")))
    (h2 : findIn K (.ref D) "__getattr__" = some none) (h3 : subIn K (.ref D) (.type "BaseException") = some true) (h4 : hasDictIn K D = true)
    (h5 : findIn K (.ref D) "__class__" = some (some (.builtin "object.__class__")))
    (h6 : specialIn K (.builtin "object.__class__") "__get__" = some (some (.builtin "getset_descriptor.__get__")))
    (h7 : takesIn K (.builtin "object.__class__") = some true) (h8 : mroIn K D (.type "object") = some true) :
    KitX K (.ref x) (.ref D) (fun h => W.InstAt h x ox D od) := by
  obtain ⟨cd, hc, _⟩ := any_some h4
  unfold clsIn at hc
  split at hc
  · rename_i c1 d1 cd1 sl1 ho
    refine ⟨fun _ _ _ I => I.type, fun _ _ X _ A' Q' E' s' k q => ?_, fun h tp dd its n sl X htp => Bool.eq_false_iff.mpr fun q => ?_, fun X I k => get_cls h1 h2 h3 h4 h5 h6 h7 h8 X I k⟩
    · unfold isType loadHead
      exact wpAny_bind (wpAny_loadPart (k _ _ (X _ _ ho)) (wpAny_pure q))
    · have e : D = tp := Value.ref.inj (beq_iff_eq.mp q)
      subst e
      have z := (X _ _ ho).symm.trans htp
      cases z
  · cases hc
end
end VxE
end PySem

namespace Vx
open PySem PySem.Spec PyProof.Rows L2

/-- a class of the text over ValueError, HE its base of the text (none: ValueError itself) -/
structure Xc (K : PySem.W.Frag) (C : Addr) (up : List Value) : Prop where
  cls : ∃ nm q N bs sn sub ab col dd k0 k1 k2 k3 k5, K.lookup C = some (excClassObj nm q C N bs up true sn sub ab col dd k0 k1 k2 k3 k5 "ValueError.__new__")
  sa : PySem.W.findIn K (.ref C) "__setattr__" = some (some (.builtin "object.__setattr__"))
  ga : PySem.W.findIn K (.ref C) "__getattribute__" = some (some (.builtin "BaseException.__getattribute__"))
  gg : PySem.W.findIn K (.ref C) "__getattr__" = some none
  ca : PySem.W.findIn K (.ref C) "__class__" = some (some (.builtin "object.__class__"))
  kC : PySem.W.keepIn K (.ref C) = true
/-- the way up from ValueError -/
def veUp : List Value := [.type "ValueError", .type "Exception", .type "BaseException", .type "object"]
section
variable {K : PySem.W.Frag} {C : Addr} {up : List Value}
theorem Xc.clsIn (T : Xc K C up) : ∃ nm q N bs sn sub ab col, PySem.W.clsIn K C = some { name := nm, bases := bs, mro := .ref C :: up, ns := N, qualname := q, hasDict := true, slotNames := sn, subclasses := sub, abstract := ab, collection := col, hasDel := false } := by
  obtain ⟨nm, q, N, bs, sn, sub, ab, col, dd, k0, k1, k2, k3, k5, hC⟩ := T.cls
  refine ⟨nm, q, N, bs, sn, sub, ab, col, ?_⟩
  unfold PySem.W.clsIn
  rw [hC]
theorem Xc.mro (T : Xc K C up) (b : Value) : PySem.W.mroIn K C b = some ((Value.ref C :: up).contains b) := by
  obtain ⟨nm, q, N, bs, sn, sub, ab, col, h⟩ := T.clsIn
  unfold PySem.W.mroIn
  rw [h]
  rfl
theorem Xc.sub (T : Xc K C up) (b : Value) : PySem.W.subIn K (.ref C) b = some ((Value.ref C :: up).contains b) := T.mro b
theorem Xc.ty (T : Xc K C up) : PySem.W.typeIn K (.ref C) = some (.type "type") := by
  obtain ⟨nm, q, N, bs, sn, sub, ab, col, dd, k0, k1, k2, k3, k5, hC⟩ := T.cls
  show (K.lookup C).map (·.cls) = _
  rw [hC]
  rfl
theorem Xc.hd (T : Xc K C up) : PySem.W.hasDictIn K C = true := by
  obtain ⟨nm, q, N, bs, sn, sub, ab, col, h⟩ := T.clsIn
  unfold PySem.W.hasDictIn
  rw [h]
  rfl
theorem Xc.is (T : Xc K C up) : (PySem.W.clsIn K C).isSome = true := by
  obtain ⟨nm, q, N, bs, sn, sub, ab, col, h⟩ := T.clsIn
  rw [h]
  rfl
theorem Xc.exC (T : Xc K C up) (h : up.contains (.type "BaseException") = true) : PySem.W.subIn K (.ref C) (.type "BaseException") = some true := by
  rw [T.sub, List.contains_cons, h, Bool.or_true]
theorem Xc.oex (T : Xc K C up) (h : PySem.HandSPX.refsVE up = true) (hb : up.contains (.type "BaseException") = true) : OexC K C := by
  obtain ⟨nm, q, N, bs, sn, sub, ab, col, dd, k0, k1, k2, k3, k5, hC⟩ := T.cls
  exact ⟨⟨nm, q, N, bs, up, sn, sub, ab, col, dd, k0, k1, k2, k3, k5, hC, h⟩, T.sa, T.exC hb, T.ty, T.kC⟩
/-- isinstance by the classes' ways up -/
theorem Xc.kit (T : Xc K C up) {D : Addr} {up' : List Value} (T' : Xc K D up') : PySem.W.kitOne K (.ref C) (.ref D) = some ((Value.ref C :: up).contains (.ref D)) := by
  unfold PySem.W.kitOne
  by_cases h : (Value.ref C == Value.ref D) = true
  · rw [if_pos h, List.contains_cons]
    have e : C = D := Value.ref.inj (beq_iff_eq.mp h)
    subst e
    simp
  · rw [if_neg h]
    show (if ((PySem.W.clsIn K D).isSome && PySem.W.typeIn K (.ref D) == some (.type "type")) = true then PySem.W.subIn K (.ref C) (.ref D) else none) = _
    rw [T'.is, T'.ty, T.sub]
    rfl
theorem Xc.kitT (T : Xc K C up) {n : String} (h : PySem.W.kitMeta n = true) : PySem.W.kitOne K (.ref C) (.type n) = some (up.contains (.type n)) := by
  unfold PySem.W.kitOne
  rw [if_neg (show ¬ (Value.ref C == Value.type n) = true from fun z => by cases beq_iff_eq.mp z)]
  show (if PySem.W.kitMeta n = true then PySem.W.subIn K (.ref C) (.type n) else none) = _
  rw [if_pos h, T.sub, List.contains_cons]
  rfl
end

/-- an exception of the class at C that keeps v under f -/
def ExA (H : Hp) (e C : Addr) (f : Str) (v : V) : Prop := ∃ d, H e = some (exo e C (some d)) ∧ H d = some (exd d [(f, v)])
/-- an exception of the class at C that keeps nothing -/
def Ex0 (H : Hp) (e C : Addr) : Prop := H e = some (exo e C none)
/-- an exception of the class at C -/
def IsEx (H : Hp) (e C : Addr) : Prop := Ex0 H e C ∨ ∃ d fs, H e = some (exo e C (some d)) ∧ H d = some (exd d fs)
theorem ExA.is {H : Hp} {e C : Addr} {f : Str} {v : V} (h : ExA H e C f v) : IsEx H e C := let ⟨d, h, k⟩ := h; Or.inr ⟨d, _, h, k⟩
theorem Ex0.is {H : Hp} {e C : Addr} (h : Ex0 H e C) : IsEx H e C := Or.inl h
theorem ExA.mono {H H' : Hp} {e C : Addr} {f : Str} {v : V} (s : Same H H') (h : ExA H e C f v) : ExA H' e C f v := let ⟨d, a, b⟩ := h; ⟨d, s _ _ a, s _ _ b⟩
theorem IsEx.mono {H H' : Hp} {e C : Addr} (s : Same H H') (h : IsEx H e C) : IsEx H' e C := by
  rcases h with h | ⟨d, fs, a, b⟩
  · exact Or.inl (s _ _ h)
  · exact Or.inr ⟨d, fs, s _ _ a, s _ _ b⟩

/-- what the built-in __class__ is to the written part -/
structure ClsG (K : PySem.W.Frag) : Prop where
  hn : PySem.W.specialIn K (.builtin "object.__class__") "__get__" = some (some (.builtin "getset_descriptor.__get__"))
  ht : PySem.W.takesIn K (.builtin "object.__class__") = some true

section
variable {X : Cx} {pins : List (Addr × Obj)} {σ : L2.St} {H : Hp} {s : Shared}
theorem Inv.exo_inst {a C : Addr} (I : Inv X pins σ H s) (h : IsEx H a C) : ∃ ox od, PySem.W.InstAt s.heap a ox C od := by
  rcases h with h | ⟨d, fs, h, hd⟩
  · obtain ⟨t1, ho⟩ := exo_at I.hok h
    exact ⟨_, none, ho, rfl, rfl, trivial⟩
  · obtain ⟨t1, ho⟩ := exo_at I.hok h
    obtain ⟨mA, ⟨o, es, ep, hdo, _⟩, _⟩ := exd_at I.hok hd
    exact ⟨_, some o, ho, rfl, rfl, hdo⟩
/-- isinstance(e, c) -/
def rIsX (K : PySem.W.Frag) : List V → Hp → VK → Prop := fun xs H Q => ∃ (a C : Addr) (up : List Value) (c : V) (cv : Value) (b : Bool), xs = [.ref a, c] ∧ IsEx H a C ∧
  Xc K C up ∧ up.contains (.type "BaseException") = true ∧ up.contains (.type "object") = true ∧ (∀ u, RelV c u → u = cv) ∧ PySem.W.kitOne K (.ref C) cv = some b ∧ Q (.bl b) H
theorem call_isX (G : ClsG X.K) : CallR X (.builtin "isinstance") (rIsX X.K) := by
  intro pins s σ H xs us Q I r h
  obtain ⟨a, C, up, c, cv, b, rfl, hx, T, hb, ho, hcv, e, q⟩ := h
  obtain ⟨u, u2, rfl, r1, r2⟩ := vals2 r
  cases r1
  have ec := hcv _ r2
  subst ec
  obtain ⟨ox, od, J⟩ := Inv.exo_inst I hx
  have hm : PySem.W.mroIn X.K C (.type "object") = some true := by rw [T.mro, List.contains_cons, ho, Bool.or_true]
  exact PySem.W.kia_one (PySem.VxE.kit_exc T.ga T.gg (T.exC hb) T.hd T.ca G.hn G.ht hm) I.kIn J e (fun z => nomatch z)
    fun tk => ⟨.bl b, H, I.kept (t' := tk) fun _ _ z => z, rfl, q⟩
/-- isinstance(e, (T, ..)), built-in classes -/
def rIsXT (K : PySem.W.Frag) : List V → Hp → VK → Prop := fun xs H Q => ∃ (a C t : Addr) (up : List Value) (ns : List String) (b : Bool), xs = [.ref a, .ref t] ∧ IsEx H a C ∧
  Xc K C up ∧ up.contains (.type "BaseException") = true ∧ up.contains (.type "object") = true ∧ H t = some (.tup (ns.map V.ty)) ∧ PySem.W.kitAny K (.ref C) (ns.map Value.type) = some b ∧ Q (.bl b) H
theorem vals_ty : ∀ {ns : List String} {us : List Value}, Vals (ns.map V.ty) us → us = ns.map Value.type
  | [], _, .nil => rfl
  | n :: ns, _, .cons r t => by
    have e : _ = Value.type n := r
    rw [List.map_cons, e, vals_ty t]
theorem call_isXT (G : ClsG X.K) : CallR X (.builtin "isinstance") (rIsXT X.K) := by
  intro pins s σ H xs us Q I r h
  obtain ⟨a, C, t, up, ns, b, rfl, hx, T, hb, ho, ht, e, q⟩ := h
  obtain ⟨u, u2, rfl, r1, r2⟩ := vals2 r
  cases r1
  cases r2
  obtain ⟨its, rv, ⟨o, h1, h2, n, h3⟩, _⟩ := I.tuple (SqT.of ht)
  have ei := vals_ty rv
  subst ei
  obtain ⟨oc, odd, od', osl⟩ := o
  dsimp only at h2 h3
  subst h2 h3
  obtain ⟨ox, od, J⟩ := Inv.exo_inst I hx
  have hm : PySem.W.mroIn X.K C (.type "object") = some true := by rw [T.mro, List.contains_cons, ho, Bool.or_true]
  exact PySem.W.kia_tup (PySem.VxE.kit_exc T.ga T.gg (T.exC hb) T.hd T.ca G.hn G.ht hm) I.kIn J h1 e (fun z => nomatch z)
    fun tk => ⟨.bl b, H, I.kept (t' := tk) fun _ _ z => z, rfl, q⟩

/-- e.f of an exception -/
def tXa (K : PySem.W.Frag) (f : Str) (te : TE) : TE := fun σ H Q => te σ H fun x H1 => ∃ (a C : Addr) (up : List Value) (v : V), x = .ref a ∧ Xc K C up ∧ up.contains (.type "BaseException") = true ∧
  PySem.W.findIn K (.ref C) f = some none ∧ ExA H1 a C f v ∧ Q v H1
theorem pe_xa {e : Expr} {te : TE} {pos : Pos} {f : Str} (he : PE X e te) (hb : attributeBase e f X.env (eval e X.env) = eval e X.env := by rfl) : PE X (.Attribute e f pos) (tXa X.K f te) := by
  refine ⟨fun pins s σ H Q I h => ?_⟩
  refine attr_of hb (thn (he.run pins s σ H _ I h) ?_)
  rintro u s1 ⟨x, H1, I1, rx, a, C, up, v, ex, T, hbe, hno, ⟨d, ha, hd⟩, q⟩
  subst ex
  obtain rfl : u = Value.ref a := rx
  obtain ⟨t1, ho⟩ := exo_at I1.hok ha
  obtain ⟨mA, hns, hr⟩ := exd_at I1.hok hd
  obtain ⟨od, hod, hl⟩ := lookIn_ns hns
  obtain ⟨u, hu, ru⟩ := RelO.some_of (v := v) (o := mA f) (by have := hr f; rw [lookup_put, if_pos rfl] at this; exact this)
  have J : PySem.W.InstAt s1.heap a _ C (some od) := ⟨ho, rfl, rfl, hod⟩
  exact HandSPX.exc_get I1.kIn J T.ga T.gg (T.exC hbe) (PySem.W.findObj_own T.hd hno rfl (by rw [hl, hu])) (handed_of ru) ⟨v, H1, I1.tok _, ru, q⟩
end

/-- __init__ of such a class: the new exception, and its dict with the one attribute -/
def spIni (K : PySem.W.Frag) (C : Addr) (f : Str) : Sp := fun vs H Q _ => ∃ (a : Addr) (v : V), vs = [.ref a, v] ∧ H a = some (exo a C none) ∧
  ∀ d, H d = none → d ≠ a → Q .non (upd (upd H d (exd d [(f, v)])) a (exo a C (some d)))
structure Ini (K : PySem.W.Frag) (C : Addr) (f : Str) : Prop where
  ex : ∃ fI fd, PySem.W.findIn K (.ref C) "__init__" = some (some (.ref fI)) ∧ PySem.W.typeIn K (.ref fI) = some (.type "function") ∧
    (∀ P w mg base, FnOk P w K mg base CX0 1 fI fd ["self", f] (spIni K C f)) ∧ Binds K fd ["self", f] [] ∧
    ∀ s e v, BindsTo s fd ⟨[e], [(f, v)]⟩ [("self", e), (f, v)]
  no : PySem.W.findIn K (.ref C) f = some none
theorem ini_ok {P : Program} {w : World} {K : PySem.W.Frag} {mg : Str → Option Value} {base : Heap} {C fI : Addr} {fd : FuncData} {f qn : Str} {st : Stmt} {p1 p2 p3 p4 : Pos}
    (T : OexC K C) (no : PySem.W.findIn K (.ref C) f = some none) (F : Fun K "__init__" qn st fI fd) (S : FnScope ["self", f] ["self", f] (defScope st))
    (hb : defBody st = [.Assign [.Attribute (.Name "self" p1) f p2] (.Name f p3) p4]) (hd : (f == ("__debug__" : Str)) = false) (hc : (f == ("__classdict__" : Str)) = false) :
    FnOk P w K mg base CX0 1 fI fd ["self", f] (spIni K C f) := by
  have vis : ∀ x ∈ (["self", f] : List Str), Vis (defScope st) x := fun x hx => (S.par x hx).elim Or.inl fun z => Or.inr (Or.inl z)
  refine F.ok S (fun vs H Q E h => ?_) (fun cdv A outer s H vs Q E hr h => ?_)
  · obtain ⟨a, v, rfl, _⟩ := h
    rfl
  · obtain ⟨a, v, rfl, ha, q⟩ := h
    rw [hb]
    refine ⟨_, pss_one (ps_ost (pe_var (i := 0) rfl (vis _ (List.Mem.head _))) (pe_var (i := 1) rfl (vis _ (List.Mem.tail _ (List.Mem.head _))) hd hc)), ?_⟩
    refine ⟨_, rfl, _, rfl, a, C, rfl, T, no, Or.inl ⟨ha, fun d hd hn => ?_⟩⟩
    exact q d hd hn

section
variable {X : Cx} {pins : List (Addr × Obj)} {σ : L2.St} {H : Hp} {Q : VK} {C : Addr} {f x : Str} {p pos : Pos} {e : Expr} {te : TE}
/-- C(v), C(f=v): kw tells which -/
theorem run_exc {s : Shared} {v : V} {u : Value} (T : OexC X.K C) (N : Ini X.K C f) (hr : Room 2 X.A) (I : Inv X pins σ H s) (r : RelV v u) (kw : Bool)
    (q : ∀ a H2, Same H H2 → ExA H2 a C f v → Q (.ref a) H2) :
    wpAny (model X.prog X.w) X.A (if kw then call (.ref C) [] [(f, u)] else call (.ref C) [u]) (EP X pins σ Q) X.xe s := by
  obtain ⟨nm, qn, N0, bs, bm, sn, sub, ab, col, dd, k0, k1, k2, k3, k5, hC, hbm⟩ := T.cls
  obtain ⟨fI, fd, iC, tI, F, bP, bK⟩ := N.ex
  obtain ⟨hp, g, dr, tk, os⟩ := s
  have hn : H (hp.objs.size + 1) = none := I.hok.fresh (Nat.le_succ _)
  have hq : spIni X.K C f [.ref (hp.objs.size + 1), v] (upd H (hp.objs.size + 1) (exo (hp.objs.size + 1) C none)) (fun z H2 => z = .non ∧ Q (.ref (hp.objs.size + 1)) H2) E0 := by
    refine ⟨_, v, rfl, upd_same, fun d hd hne => ⟨rfl, ?_⟩⟩
    rw [upd_ne hne] at hd
    refine q _ _ (fun b o z => ?_) ⟨d, upd_same, by rw [upd_ne hne, upd_same]⟩
    rw [upd_ne (ne_of_none z hn), upd_ne (ne_of_none z hd), upd_ne (ne_of_none z hn)]
    exact z
  have mk : ∀ ws : List Value, ∃ h' : Heap, h' = (hp.push (PySem.W.kdv_tup ws)).push (PySem.HandSPX.excO C hp.objs.size) ∧
      Inv X pins σ (upd H (hp.objs.size + 1) (exo (hp.objs.size + 1) C none)) ⟨h', g, dr, tk, os⟩ := fun ws => by
    have kk : ∀ b o, hp.get? b = some o → ((hp.push (PySem.W.kdv_tup ws)).push (PySem.HandSPX.excO C hp.objs.size)).get? b = some o :=
      fun b o z => Heap.get?_push_of_some _ (Heap.get?_push_of_some _ z)
    have hg : ((hp.push (PySem.W.kdv_tup ws)).push (PySem.HandSPX.excO C hp.objs.size)).get? (hp.objs.size + 1) = some (PySem.HandSPX.excO C hp.objs.size) := by heap_get
    exact ⟨_, rfl, I.laid (t' := tk) (a := hp.objs.size + 1) (o := exo (hp.objs.size + 1) C none) kk (Nat.le_succ _) (exo_ok hg)⟩
  have r2 : Vals [V.ref (hp.objs.size + 1), v] [Value.ref (hp.objs.size + 1), u] := .cons rfl (.cons r .nil)
  have fin : ∀ {h' : Heap} {r : Result} {s' : Shared}, Inv X pins σ (upd H (hp.objs.size + 1) (exo (hp.objs.size + 1) C none)) ⟨h', g, dr, tk, os⟩ →
      CR CX0 X.stack X.prog X.w (upd H (hp.objs.size + 1) (exo (hp.objs.size + 1) C none)) ⟨h', g, dr, tk, os⟩ (fun z H2 => z = .non ∧ Q (.ref (hp.objs.size + 1)) H2) E0 r s' →
      match r with
      | .ok (.ret z) => z = .none ∧ EP X pins σ Q (.ref (hp.objs.size + 1)) s'
      | .ok _ => False
      | .error er => X.xe er s' := fun {h' r s'} I2 hc => by
    cases r with
    | error er => exact hc.elim
    | ok fl =>
      cases fl with
      | ret z =>
        obtain ⟨z', H2, I3, rz, ez, q3⟩ := I2.after hc
        subst ez
        exact ⟨rz, V.ref (hp.objs.size + 1), H2, I3, rfl, q3⟩
      | next => exact hc.elim
      | brk => exact hc.elim
      | cont => exact hc.elim
  cases kw with
  | false =>
    obtain ⟨h', eh, I2⟩ := mk [u]
    show wpAny _ _ (call (.ref C) [u]) _ _ _
    refine wpAny_call (PySem.HandSPX.call_own PySem.F.excBase_ValueError (fun Y => PySem.HandSPX.refsVE_contains Y bm hbm) (I.kIn _ _ hC) (PySem.W.looks_findIn I.kIn iC)
      (fun self => PySem.W.bind_fn I.kIn self tI) (by show 1 ≤ sizeLine; rw [sizeLine_eq]; decide) ?_)
    rw [← eh]
    refine codeAny_mono ((F X.prog X.w X.mg X.base).run _ X.stack _ _ ⟨[.ref (hp.objs.size + 1), u], []⟩ [.ref (hp.objs.size + 1), u] _ _ E0 (hr.make C [u] [])
      (I2.env0.make C [u] []) (bP _ [.ref (hp.objs.size + 1), u] I2.kIn rfl) r2 hq) fun r s' hc => ?_
    have z := fin I2 hc
    cases r with
    | error er => exact z
    | ok fl => cases fl <;> exact z
  | true =>
    obtain ⟨h', eh, I2⟩ := mk []
    show wpAny _ _ (call (.ref C) [] [(f, u)]) _ _ _
    refine wpAny_call (PySem.VxE.call_kw PySem.F.excBase_ValueError (fun Y => PySem.HandSPX.refsVE_contains Y bm hbm) (I.kIn _ _ hC) (PySem.W.looks_findIn I.kIn iC)
      (fun self => PySem.W.bind_fn I.kIn self tI) ?_)
    rw [← eh]
    refine codeAny_mono ((F X.prog X.w X.mg X.base).run _ X.stack _ _ ⟨[.ref (hp.objs.size + 1)], [(f, u)]⟩ [.ref (hp.objs.size + 1), u] _ _ E0 (hr.make C [] [(f, u)])
      (I2.env0.make C [] [(f, u)]) (bK _ _ _) r2 hq) fun r s' hc => ?_
    have z := fin I2 hc
    cases r with
    | error er => exact z
    | ok fl => cases fl <;> exact z
/-- C(e) -/
def tXn (C : Addr) (f : Str) (t : TA) : TE := fun σ H Q => t σ H fun vs H1 => ∃ v, vs = [v] ∧ ∀ a H2, Same H1 H2 → ExA H2 a C f v → Q (.ref a) H2
theorem pe_xn {es : List Expr} {t : TA} (T : OexC X.K C) (N : Ini X.K C f) (hr : Room 2 X.A) (hg : Gl X x) (hm : X.mg x = some (.ref C)) (ha : PA X (e :: es) t)
    (hdb : (x == ("__debug__" : Str)) = false := by decide) (hs : starEach (e :: es) X.env = (false, eval e X.env) :: starEach es X.env := by rfl)
    (hpl : (backTo pos (starEach es X.env)).any (·.1) = false := by rfl) : PE X (.Call (.Name x p) (e :: es) [] pos) (tXn C f t) := by
  refine ⟨fun pins s σ H Q I h => ?_⟩
  refine wpAny_Call_Name_kw (ld_glob I hg hm ?_ hdb)
  refine PySem.W.callWith_K (h₀ := X.base) I.ok.mod.kin T.kC (thn (ha.run pos pins s σ H _ I h) ?_) hs hpl
  rintro us s1 ⟨vs, H1, I1, r, v, rfl, q⟩
  obtain ⟨u, rfl, ru⟩ := vals1 r
  exact ⟨I1.kIn, run_exc T N hr I1 ru false q⟩
/-- C(f=e) -/
theorem pe_xk {kws : List Keyword} {t : TA} (T : OexC X.K C) (N : Ini X.K C f) (hr : Room 2 X.A) (hg : Gl X x) (hm : X.mg x = some (.ref C)) (hkw : PK X kws t)
    (hall : (backToKw pos (keywordEach kws X.env)).all (·.1.isSome) = true := by rfl) (hks : (backToKw pos (keywordEach kws X.env)).filterMap (·.1) = [f] := by rfl)
    (hdb : (x == ("__debug__" : Str)) = false := by decide)
    (hpl : ((backTo pos (starEach [] X.env)).any (·.1) || (backToKw pos (keywordEach kws X.env)).any (·.1.isNone)) = false := by rfl) :
    PE X (.Call (.Name x p) [] kws pos) (tXn C f t) := by
  refine ⟨fun pins s σ H Q I h => ?_⟩
  refine wpAny_Call_Name_kw (ld_glob I hg hm ?_ hdb)
  refine PySem.W.callWith_KW0 (h₀ := X.base) I.ok.mod.kin T.kC hall (thn (hkw.run pos pins s σ H _ I h) ?_) hpl
  rintro us s1 ⟨vs, H1, I1, r, v, rfl, q⟩
  obtain ⟨u, rfl, ru⟩ := vals1 r
  refine ⟨I1.kIn, ?_⟩
  rw [hks]
  exact run_exc T N hr I1 ru true q
/-- C() of a class without an own __init__ -/
def tX0 (C : Addr) : TE := fun _ H Q => ∀ a H2, Same H H2 → Ex0 H2 a C → Q (.ref a) H2
theorem pe_x0 {bmB : List Value} {B ni ii : String} (F : ExcBaseFacts B ni ii bmB) (q0 : PySem.W.excIn X.K C bmB ni = true) (kC : PySem.W.keepIn X.K (.ref C) = true) (hg : Gl X x) (hm : X.mg x = some (.ref C))
    (hdb : (x == ("__debug__" : Str)) = false := by decide) : PE X (.Call (.Name x p) [] [] pos) (tX0 C) := by
  refine ⟨fun pins s σ H Q I h => ?_⟩
  refine wpAny_Call_Name_kw (ld_glob I hg hm ?_ hdb)
  refine PySem.W.callWith_K0 I.kIn kC ?_
  obtain ⟨bm, N, nm, qn, bs, hdct, sn, sub, ab, col, dd, k0, k1, k2, k3, k5, mN, hC, hN, hni, T⟩ := exc_obj I.kIn q0
  obtain ⟨hp, g, dr, tk, os⟩ := s
  refine wpAny_call_exc_subT F T hC hN hni (fun h' a hm => ?_) (Nat.zero_le _)
  have hn : H a = none := I.hok.gone hm.new
  obtain ⟨t, ht, _, _⟩ := hm.there
  exact ⟨.ref a, upd H a (exo a C none), I.laidN hm.keeps hm.new hn (exo_ok ht), rfl, h a _ (same_new hn) upd_same⟩
end
end Vx
namespace Vx
open PySem PySem.Spec PyProof.Rows L2

mutual
/-- a bound on the signs of d's repr -/
def cost : PyData → Nat
  | .none => 4
  | .bool _ => 5
  | .int _ => 1922
  | .str x => (reprText x).length
  | .list xs => costs xs + 2
  | .tuple xs => costs xs + 3
  | .dict kvs => costKv kvs + 2
def costs : List PyData → Nat
  | [] => 0
  | x :: xs => cost x + 2 + costs xs
def costKv : List (PyData × PyData) → Nat
  | [] => 0
  | (k, v) :: r => cost k + cost v + 4 + costKv r
end

theorem listText_le (ts : List Str) : (listText ts).length ≤ piled ts + 2 := by
  unfold listText
  rw [strLen_append]
  have e1 : (("]" : String) : Str).length = 1 := rfl
  cases ts with
  | nil =>
    show (("[" : String) : Str).length + _ ≤ _
    decide
  | cons t r =>
    have h : (textFrom 0 "[" (t :: r)) = textFrom 1 ((("[" : String) : Str) ++ ((if 0 > 0 then ", " else "" : String) : Str) ++ t) r := rfl
    rw [h, textFrom_length_pos r 1 _ (by decide), strLen_append, strLen_append, piled_cons, e1]
    have e2 : (("[" : String) : Str).length = 1 := rfl
    have e3 : (((if 0 > 0 then ", " else "" : String) : Str)).length = 0 := by decide
    omega
theorem tupleText_le (ts : List Str) : (tupleText ts).length ≤ piled ts + 3 := by
  have := fmt_text ts
  omega
theorem dictText_le (ts : List Str) : (dictText ts).length ≤ piled ts + 2 := by
  unfold dictText
  rw [strLen_append, strLen_append]
  have e1 : (("}" : String) : Str).length = 1 := rfl
  have e2 : (("{" : String) : Str).length = 1 := rfl
  by_cases h : ts = []
  · subst h
    decide
  · have := join_length_add ts h
    omega
theorem bool_le (b : Bool) : (PyData.bool b).shown.length ≤ 5 := by cases b <;> decide
mutual
theorem shown_le : ∀ d : PyData, d.showable = true → d.shown.length ≤ cost d
  | .none, _ => by decide
  | .bool b, _ => bool_le b
  | .int i, h => by
    have h' : i.natAbs.log2 < 1920 := by simpa [PyData.showable] using h
    have z := PyProof.Rows.int_text_len_1921 h'
    show (Str.ofString (toString i)).length ≤ 1922
    omega
  | .str x, _ => Nat.le_refl _
  | .list xs, h => by
    have z := showns_le xs (by simpa [PyData.showable] using h)
    have y := listText_le (PyData.shownAll xs)
    show (listText (PyData.shownAll xs)).length ≤ costs xs + 2
    omega
  | .tuple xs, h => by
    have z := showns_le xs (by simpa [PyData.showable] using h)
    have y := tupleText_le (PyData.shownAll xs)
    show (tupleText (PyData.shownAll xs)).length ≤ costs xs + 3
    omega
  | .dict kvs, h => by
    have z := shownKv_le kvs (by simpa [PyData.showable] using h)
    have y := dictText_le (PyData.shownKv kvs)
    show (dictText (PyData.shownKv kvs)).length ≤ costKv kvs + 2
    omega
theorem showns_le : ∀ xs : List PyData, PyData.showableAll xs = true → piled (PyData.shownAll xs) ≤ costs xs
  | [], _ => Nat.le_refl _
  | x :: xs, h => by
    have h' : x.showable = true ∧ PyData.showableAll xs = true := by simpa [PyData.showableAll] using h
    have a := shown_le x h'.1
    have b := showns_le xs h'.2
    show piled (x.shown :: PyData.shownAll xs) ≤ cost x + 2 + costs xs
    rw [piled_cons]
    omega
theorem shownKv_le : ∀ kvs : List (PyData × PyData), PyData.showableKv kvs = true → piled (PyData.shownKv kvs) ≤ costKv kvs
  | [], _ => Nat.le_refl _
  | (k, v) :: r, h => by
    have h' : (k.showable = true ∧ v.showable = true) ∧ PyData.showableKv r = true := by simpa [PyData.showableKv] using h
    have a := shown_le k h'.1.1
    have b := shown_le v h'.1.2
    have c := shownKv_le r h'.2
    show piled ((k.shown ++ (((": " : String) : Str)) ++ v.shown) :: PyData.shownKv r) ≤ cost k + cost v + 4 + costKv r
    rw [piled_cons, strLen_append, strLen_append]
    have e : ((": " : String) : Str).length = 2 := rfl
    omega
end
/-- d may be shown -/
def Okd (d : PyData) : Prop := d.showable = true ∧ d.depth < 60 ∧ cost d ≤ 16000000
theorem Okd.fits {d : PyData} (h : Okd d) : d.shown.length ≤ sizeLine := by
  have := shown_le d h.1
  have := h.2.2
  rw [sizeLine_eq]
  omega
/-- what a repr asks, said once -/
theorem repr_q {K : PySem.W.Frag} {H : Hp} {Q : VK} {a : Addr} {d : PyData} (h : Rp K H (.ref a) d) (o : Okd d) (q : Q (.str d.shown) H) :
    ∃ a' d', [V.ref a] = [.ref a'] ∧ Rp K H (.ref a') d' ∧ d'.showable = true ∧ d'.depth < 60 ∧ d'.shown.length ≤ sizeLine ∧ Q (.str d'.shown) H :=
  ⟨a, d, rfl, h, o.1, o.2.1, o.fits, q⟩
theorem rpa_bls {K : PySem.W.Frag} {H : Hp} : ∀ bs : List Bool, RpA K H (bs.map V.bl) (bs.map PyData.bool)
  | [] => .nil
  | b :: bs => .cons (.bl b) (rpa_bls bs)
theorem okd_bls (bs : List Bool) (h : bs.length ≤ 1000) : Okd (.list (bs.map PyData.bool)) := by
  have h1 : ∀ bs : List Bool, PyData.showableAll (bs.map PyData.bool) = true := by
    intro bs
    induction bs with
    | nil => rfl
    | cons b bs ih => simp [PyData.showableAll, PyData.showable, ih]
  have h2 : ∀ bs : List Bool, costs (bs.map PyData.bool) = 7 * bs.length := by
    intro bs
    induction bs with
    | nil => rfl
    | cons b bs ih =>
      show cost (PyData.bool b) + 2 + costs (bs.map PyData.bool) = _
      rw [ih, List.length_cons]
      show 5 + 2 + _ = _
      omega
  have h3 : ∀ bs : List Bool, PyData.depthAll (bs.map PyData.bool) ≤ 1 := by
    intro bs
    induction bs with
    | nil => simp [PyData.depthAll]
    | cons b bs ih =>
      simp only [List.map_cons, PyData.depthAll, PyData.depth]
      omega
  refine ⟨by simpa [PyData.showable] using h1 bs, ?_, ?_⟩
  · have := h3 bs
    simp only [PyData.depth]
    omega
  · show costs (bs.map PyData.bool) + 2 ≤ _
    rw [h2]
    omega
end Vx
namespace Vx
open PySem PySem.Spec PyProof.Rows L2
open GxR (TabB GenS sh_eta)

def tabP (P : Addr) (h : Heap) : Prop := ∃ ps : Array Value, h.get? P = some { cls := .none, data := .fields ps } ∧ TriplesOk ps.toList
def tabX (P : Addr) : HO := .ext (tabP P)
theorem tabX_ok {Pr : Program} {w : World} {H : Hp} {h : Heap} {P : Addr} (e : tabP P h) : ObjOk Pr w H h P (tabX P) := by
  obtain ⟨ps, e1, t1⟩ := e
  exact ⟨⟨ps, e1, t1⟩, ⟨_, e1⟩, fun h1 h2 ⟨qs, e2, t2⟩ k => ⟨qs, k _ e2, t2⟩⟩
section
variable {X : Cx} {pins : List (Addr × Obj)} {σ : L2.St} {H : Hp} {s : Shared}
theorem inv_tab1 {P : Addr} (I : Inv X pins σ H s) (hP : H P = some (tabX P)) : tabP P s.heap := (I.hok P _ hP).1
theorem inv_tabX {P : Addr} {h' : Heap} {g' : Array GenState} {d' : Drawn} {t' : Nat} (I : Inv X pins σ H s) (hP : H P = some (tabX P)) (k : ∀ b o, b ≠ P → s.heap.get? b = some o → h'.get? b = some o)
    (hm : tabP P h') (hg : AllBare g') : Inv X pins σ H { s with heap := h', gens := g', drawn := d', toks := t' } := by
  have nP : ∀ b u, H b = some u → (u ≠ tabX P) → b ≠ P := fun b u e q z => by
    rw [z, hP] at e
    exact q (Option.some.inj e).symm
  have nN : ∀ b, H b = none → b ≠ P := fun b e z => by
    rw [z, hP] at e
    cases e
  refine I.step (g' := g') (d' := d') (ch := []) (fun b hb => absurd hb (by simp)) (fun b o _ _ _ e n => k b o (nN b n) e) (fun b o _ _ _ e n => ⟨o.slots, k b o (nN b n) e⟩)
    (fun b o _ e n => n) (fun b o _ e => ?_) (fun b xs e => e) (fun b o u e => e) (fun b qs e => ⟨#[], by rw [e]; simp⟩) (fun m hn => ?_) (fun b u e => ?_) hg
  · by_cases hb : b = P
    · obtain ⟨ps, q, _⟩ := hm
      rw [hb]
      exact ⟨_, q⟩
    · exact ⟨o, k b o hb e⟩
  · obtain ⟨ob, es, ep, ho, r⟩ := hn
    exact ⟨ob, es, ep, k _ ob (nN _ I.free) ho, r⟩
  · by_cases hb2 : b = P
    · rw [hb2] at e ⊢
      rw [hP] at e
      cases e
      exact tabX_ok hm
    · refine (I.hok b u e).stay (fun d v hd q => k d v ?_ q) (fun d q => q) fun d xs q => q
      rcases hd with z | z
      · rw [z]
        exact hb2
      · exact nP d _ z (fun q => by cases q)

/-- the element, at each item of the tuple -/
def EltT (X : Cx) (P : Addr) (scope : Scope) (x : Str) (elt : Expr) (s1 : Shared) (its : List Value) (bs : List Bool) : Prop :=
  ∀ (cenv : Env) (A' : Around) (E' : Value → Shared → Prop) (j : Nat) (u : Value) (b : Bool) (s₂ : Shared) (m₂ : Str → Option Value), cenv.scope = scope → cenv.globals = mainGlobals → cenv.builtins = builtinsNs →
    A'.handled = none → A'.depth ≤ X.A.depth + 1 → A'.units ≤ X.A.units + 8 → (∀ b o, b ≠ P → s1.heap.get? b = some o → s₂.heap.get? b = some o) →
    its[j]? = some u → bs[j]? = some b → s₂.heap.Ns cenv.locals m₂ → m₂ x = some u → wpAny (model X.prog X.w) A' (eval elt cenv) (fun y s₃ => y = .bool b ∧ Keeps s₂ s₃) E' s₂

def trB (bs : List Bool) (j : Nat) : Bool := match bs[j]? with | some b => b | none => false
theorem trB_some {bs : List Bool} {j : Nat} {b : Bool} (h : bs[j]? = some b) : trB bs j = b := by
  unfold trB
  rw [h]
theorem all_trB (bs : List Bool) : (List.range bs.length).all (trB bs) = bs.all id := by
  rw [Bool.eq_iff_iff, List.all_eq_true, List.all_eq_true]
  constructor
  · intro h b hb
    obtain ⟨j, hj, e⟩ := List.getElem_of_mem hb
    have q := h j (List.mem_range.mpr hj)
    rw [trB_some (List.getElem?_eq_getElem hj), e] at q
    exact q
  · intro h j hj
    have hj' := List.mem_range.mp hj
    rw [trB_some (List.getElem?_eq_getElem hj')]
    exact h _ (List.getElem_mem hj')

/-- the generator g, ready to be walked -/
def ReadyT (X : Cx) (pins : List (Addr × Obj)) (σ : L2.St) (H1 : Hp) (bs : List Bool) (g : Addr) (s5 : Shared) : Prop :=
  ∃ (fp wr : List Addr) (G : Array GenState → Array GenState → Prop) (F : Nat → Value → Prop) (St : Nat → Shared → Prop),
    WalksS X.prog X.w X.A.in1 g fp wr G bs.length F St ∧ St 0 s5 ∧
    TruthOf X.prog X.w X.A.in1 F (trB bs) ∧
    ∀ s', Moved wr G s5 s' → Inv X pins σ H1 s'

theorem gen_tup {c P : Addr} {elt iter : Expr} {x : Str} {px gpos : Pos} {scope : Scope} {te : TE} {k : Nat} {Q' : Value → Shared → Prop} {R : Hp → List Bool → Prop} {EH : Hp → List V → List Bool → Prop}
    (hr : Room k X.A) (TB : TabB X.base X.mg c P) (hcode : X.env.code = .ref c) (S : GenS X.env scope x) (hi : PE X iter te)
    (hel : ∀ (H1 : Hp) (s1 : Shared) (xs : List V) (its : List Value) (bs : List Bool), Inv X pins σ H1 s1 → Vals xs its → EH H1 xs bs → EltT X P scope x elt s1 its bs)
    (hs : ∀ v, genFold iter X.env v = pure v) (I : Inv X pins σ H s)
    (h : te σ H fun v H1 => ∃ (a : Addr) (xs : List V) (bs : List Bool), v = .ref a ∧ SqT X.K H1 a xs ∧ H1 P = some (tabX P) ∧ bs.length = xs.length ∧ EH H1 xs bs ∧ R H1 bs)
    (hQ : ∀ H1 bs g s5, R H1 bs → ReadyT X pins σ H1 bs g s5 → Q' (.ref g) s5) :
    wpAny (model X.prog X.w) X.A (eval (.GeneratorExp elt [⟨.Name x px, iter, [], 0⟩] scope gpos) X.env) Q' X.xe s := by
  refine wpAny_GeneratorExp_walksQD hr.hd S.co (closure_ok S.free) S.cell S.dot S.loc S.kind (by have := hr.dp; omega) ?_ hs
  refine thn (hi.run pins s σ H _ I h) fun xv s1 ⟨v, H1, I1, r1, q1⟩ => ?_
  obtain ⟨a, xs, bs, rfl, hsq, hP, hlen, hEH, q1⟩ := q1
  cases r1
  obtain ⟨its, rv, pT, _⟩ := I1.tuple hsq
  have EL := hel H1 s1 xs its bs I1 rv hEH
  have hbl : bs.length = its.length := hlen.trans rv.length
  refine wpAny_pyIter_tuple pT ?_
  generalize ho : ({ cls := .type "tuple_iterator", data := .fields #[.ref a, .int 0 0] } : Obj) = o
  obtain ⟨ps, hPs, ht⟩ := inv_tab1 I1 hP
  have hPlt : P < s1.heap.objs.size := Heap.lt_size hPs
  have hP2 : (s1.heap.push o).get? P = some { cls := .none, data := .fields ps } := Heap.get?_push_of_some _ hPs
  have cd : PySem.W.CodeHd (s1.heap.push o) c P := TB.code.keeps fun b u e => Heap.get?_push_of_some _ (I1.bk b u e)
  have lim2 : (s1.heap.push o).NoLimit := I1.nolimit.push o
  have alt : a < s1.heap.objs.size := by
    obtain ⟨o', ho', _⟩ := pT
    exact Heap.lt_size ho'
  have naP : a ≠ P := fun z => by
    obtain ⟨o', ho', hc', n, hd'⟩ := pT
    rw [z, hPs] at ho'
    cases ho'
    cases hd'
  have cont : ∀ (code : Value) (h3 : Heap) (tk : Nat) (ps' : Array Value), Heap.ExtBut P (s1.heap.push o) h3 → (s1.heap.push o).objs.size ≤ h3.objs.size → h3.get? P = some { cls := .none, data := .fields ps' } → TriplesOk ps'.toList →
      wpAny (model X.prog X.w) X.A (builtinsFor X.env.globals X.env.builtins) (fun bi s₄ =>
        ∃ Ia fp wr n₀ Pf St₀ pz F, Value.ref s1.heap.objs.size = .ref Ia ∧ (∀ A' : Around, A'.handled = none → Walks X.prog X.w A' Ia fp wr n₀ Pf St₀) ∧ St₀ 0 s₄.heap ∧ (∀ b ∈ fp, b < s₄.heap.objs.size) ∧ s₄.heap.NoLimit ∧ cStatics ∉ wr ∧
          (∀ href : Heap, (∀ b o, s₄.heap.get? b = some o → href.get? b = some o) →
            QuietGenD X.prog X.w (genEnv scope (cloFrom X.env.cells scope.names []) s₄.heap.objs.size code bi X.env) x [] elt (List.range s₄.heap.objs.size) wr Pf pz F href (X.A.depth + 1) (X.A.units + 8)) ∧
          (∀ a h₅ tk gs, gs.bare = true → s₄.heap.objs.size < a → h₅.objs.size = a + 1 → (∀ b o, s₄.heap.get? b = some o → h₅.get? b = some o) →
            WalksS X.prog X.w X.A.in4 a (a :: s₄.heap.objs.size :: List.range s₄.heap.objs.size) (s₄.heap.objs.size :: wr) (GenOnlyQ s₄.gens.size) (passing pz n₀ 0).length
              (fun j y => ∃ i, (passing pz n₀ 0)[j]? = some i ∧ F i y) (GenAt X.prog X.w X.A.in4 a s₄.gens.size s₄.heap.objs.size (List.range s₄.heap.objs.size) wr pz n₀ F) →
            GenAt X.prog X.w X.A.in4 a s₄.gens.size s₄.heap.objs.size (List.range s₄.heap.objs.size) wr pz n₀ F 0 { s₄ with gens := s₄.gens.push gs, toks := tk, heap := h₅ } →
            Q' (.ref a) { s₄ with gens := s₄.gens.push gs, toks := tk, heap := h₅ })) X.xe { s1 with heap := h3, toks := tk } := by
    intro code h3 tk ps' hx hsz hP3 ht3
    obtain ⟨bm, ob, e1, e2, e3, e4, e5, e6, e7, e8⟩ := TB.bm
    have hcP : cStatics ≠ P := fun e => by
      obtain ⟨_, hns, _⟩ := I1.nolimit
      obtain ⟨o', es, ep, ho, hd, _⟩ := hns
      rw [e, hPs] at ho
      cases ho
      cases hd
    have hcl : cStatics < s1.heap.objs.size := let ⟨_, hns, _⟩ := I1.nolimit; hns.lt
    have sz2 : (s1.heap.push o).objs.size = s1.heap.objs.size + 1 := Heap.size_push ..
    have keep3 : ∀ b u, b ≠ P → s1.heap.get? b = some u → h3.get? b = some u := fun b u hb e => hx b u hb (Heap.get?_push_of_some _ e)
    have it3 : h3.get? s1.heap.objs.size = some o := hx _ _ (fun z => Nat.ne_of_lt hPlt z.symm) (Heap.get?_push_size _ (by rw [← ho]; rfl))
    refine wpAny_builtinsFor (m := X.mg) (by rw [I1.ok.glob]; exact ((I1.mod.glob.keeps I1.bk).push o).extBut hx TB.gP) e1 e2 (keep3 _ _ e4 (I1.bk _ _ e5)) e6 e7 e8 ?_
    refine ⟨s1.heap.objs.size, [s1.heap.objs.size, a], [s1.heap.objs.size], its.toArray.size, (fun i v => its.toArray[i]? = some v), (fun i h => h.IsTupleIter s1.heap.objs.size a i ∧ h.IsTuple a its.toArray), (fun _ => true), (fun i y => ∃ b, bs[i]? = some b ∧ y = .bool b), rfl, fun A' hA => Walks.tuple hA _ _ (Nat.ne_of_lt alt) _, ?_, ?_, lim2.extBut hx hcP, ?_, ?_, ?_⟩
    · refine ⟨?_, ?_⟩
      · rw [← ho] at it3
        exact ⟨_, it3, rfl, rfl⟩
      · obtain ⟨o', ho', r'⟩ := pT
        exact ⟨o', keep3 _ _ naP ho', r'⟩
    · intro b hb
      have l1 : (s1.heap.objs.size : Nat) < h3.objs.size := by omega
      rcases List.mem_cons.mp hb with z | z
      · rw [z]
        exact l1
      · rcases List.mem_cons.mp z with z | z
        · rw [z]
          exact Nat.lt_trans alt l1
        · cases z
    · intro z
      rcases List.mem_cons.mp z with z | z
      · exact Nat.ne_of_lt hcl z
      · cases z
    · intro href hhref
      refine ⟨fun A' E' i v s₂ m₂ hA hd hu hPv hn hm hk => ?_, fun A' E' i v s₂ m₂ hA hd hu hPv hp hn hm hk => ?_⟩
      · simp only [List.forIn_nil]
        exact wpAny_pure ⟨rfl, GxR.keeps_refl _⟩
      · have hi : i < its.length := by
          obtain ⟨hlt, _⟩ := Array.getElem?_eq_some_iff.mp hPv
          simpa using hlt
        have e9 : its[i]? = some v := by simpa using hPv
        have e10 : bs[i]? = some bs[i] := List.getElem?_eq_getElem (by omega)
        refine wpAny_mono (EL _ A' E' i v bs[i] s₂ m₂ rfl I1.ok.glob rfl hA hd hu (fun b u hb e => ?_) e9 e10 hn hm) (fun y s3 r => ⟨⟨bs[i], e10, r.1⟩, r.2⟩) fun _ _ e => e
        have l4 := Heap.lt_size (keep3 b u hb e)
        refine hk b (List.mem_range.mpr l4) (fun z => ?_) u (hhref b u (keep3 b u hb e))
        rcases List.mem_cons.mp z with z | z
        · have := Heap.lt_size e
          rw [z] at this
          exact Nat.lt_irrefl _ this
        · cases z
    · intro g h5 tk5 gs hgb hag hsz5 hk5 W5 hat
      simp only [GxR.passing_true, List.length_range] at W5
      have ew : its.toArray.size = bs.length := by rw [List.size_toArray, hbl]
      rw [ew] at W5 hat
      refine hQ H1 bs g _ q1 ⟨_, _, _, _, _, W5.in4_1, hat, ?_, fun s' hm => ?_⟩
      · intro j y sj Qj Ej hy hQj
        obtain ⟨i, hij, b, hb, rfl⟩ := hy
        obtain ⟨hj, ej⟩ := List.getElem?_eq_some_iff.mp hij
        rw [List.getElem_range] at ej
        subst ej
        have hQ2 : Qj (trB bs j) sj := hQj
        rw [trB_some hb] at hQ2
        exact wpAny_truthy_bool hQ2
      · have nwr : ∀ b u, s1.heap.get? b = some u → b ∉ h3.objs.size :: [s1.heap.objs.size] := fun b u e hb => by
          have hl := Heap.lt_size e
          rcases List.mem_cons.mp hb with z | z
          · rw [z] at hl
            have h9 : (h3.objs.size : Nat) < s1.heap.objs.size := hl
            omega
          · rcases List.mem_cons.mp z with z | z
            · rw [z] at hl
              exact Nat.lt_irrefl _ hl
            · cases z
        have J := inv_tabX (h' := s'.heap) (g' := s'.gens) (d' := s'.drawn) (t' := s'.toks) I1 hP (fun b u hb e => hm.heap b u (nwr b u e) (hk5 b u (keep3 b u hb e)))
          ⟨ps', hm.heap P _ (nwr P _ hPs) (hk5 P _ hP3), ht3⟩ (AllBare.movedS (I1.bare.push hgb) hm)
        rw [sh_eta s1 s' hm.os] at J
        exact J
  refine ⟨lim2, ?_⟩
  cases hf : codeAmong gpos ps.toList with
  | none =>
    refine wpAny_genexprCodeX hcode (cd.code hP2 ht) (cd.tab hP2) hf fun c' h' tk hx hge hlt hco' _ htab' _ => ?_
    obtain ⟨o1, vs, f1, tf, fl, tg, inF, tx, tt, op, _, _, _, _, _, _, _, _, _, htr, _⟩ := hco'
    exact cont _ h' tk _ hx (Nat.le_trans hge (Nat.le_of_lt hlt)) htab'.2 htr
  | some cv =>
    refine wpAny_genexprCode_hit hcode (cd.code hP2 ht) hf ?_
    exact cont cv (s1.heap.push o) s1.toks ps (Heap.ExtBut.refl _ _) (Nat.le_refl _) hP2 ht

/-- all(test for x in e), e a tuple -/
def tAllT (K : PySem.W.Frag) (P : Addr) (EH : Hp → List V → List Bool → Prop) (te : TE) : TE := fun σ H Q => te σ H fun v H1 => ∃ (a : Addr) (xs : List V) (bs : List Bool), v = .ref a ∧ SqT K H1 a xs ∧ H1 P = some (tabX P) ∧ bs.length = xs.length ∧ EH H1 xs bs ∧ Q (.bl (bs.all id)) H1
theorem pe_allT {c P : Addr} {elt iter : Expr} {x : Str} {px p pos gpos : Pos} {scope : Scope} {te : TE} {k : Nat} {EH : Hp → List V → List Bool → Prop}
    (hr : Room k X.A) (hg : Gl X "all") (hm : X.mg "all" = none) (hb : bootBuiltins "all" = some (.builtin "all")) (TB : TabB X.base X.mg c P) (hcode : X.env.code = .ref c) (S : GenS X.env scope x) (hi : PE X iter te)
    (hel : ∀ (pins : List (Addr × Obj)) (σ : L2.St) (H1 : Hp) (s1 : Shared) (xs : List V) (its : List Value) (bs : List Bool), Inv X pins σ H1 s1 → Vals xs its → EH H1 xs bs → EltT X P scope x elt s1 its bs)
    (hs : ∀ v, genFold iter X.env v = pure v)
    (he : starEach [.GeneratorExp elt [⟨.Name x px, iter, [], 0⟩] scope gpos] X.env = (false, eval (.GeneratorExp elt [⟨.Name x px, iter, [], 0⟩] scope gpos) X.env) :: starEach [] X.env := by rfl) :
    PE X (.Call (.Name "all" p) [.GeneratorExp elt [⟨.Name x px, iter, [], 0⟩] scope gpos] [] pos) (tAllT X.K P EH te) := by
  refine ⟨fun pins s σ H Q I h => ?_⟩
  refine wpAny_Call_Name_kw (ld_blt I hg hm hb ?_)
  refine PyProof.Rows.callWith_builtin1 ?_ he (by rfl)
  rw [he]
  show wpAny _ _ (spliced ((false, eval (.GeneratorExp elt [⟨.Name x px, iter, [], 0⟩] scope gpos) X.env) :: backTo pos (starEach [] X.env))) _ _ s
  refine Calls.spliced_cons (gen_tup (R := fun H1 bs => Q (.bl (bs.all id)) H1) hr TB hcode S hi (hel pins σ) hs I h fun H1 bs g s5 hR hG => ?_)
  obtain ⟨fp, wr, G, F, St, W, hst, htr, hI⟩ := hG
  refine Calls.spliced_nil ?_
  refine call_all_walkS (W.self 0 _ _ _ hst ⟨g, fp, wr, G, _, F, St, _, rfl, W, hst, htr, fun s' hmv => ?_⟩)
  refine ⟨.bl _, H1, hI s' hmv, rfl, ?_⟩
  rw [all_trB]
  exact hR
end
end Vx
namespace Vx
open PySem PySem.Spec PyProof.Rows L2
open GxR (TabB)
theorem law_endT {P : Program} {w : World} {K : PySem.W.Frag} {mg mb : Str → Option Value} {k : Nat} {fa a : Addr} {cs : List (Addr × Addr)} {fd : FuncData} {x : Str} {sp : Sp}
    {s₁ : Shared} {vs : List Value} {ns : List Int} (KX : K.In s₁.heap) (hns : s₁.heap.Ns mainGlobals mg) (hb : s₁.heap.Ns builtinsNs mb)
    (hbb : ∀ x : Str, x ≠ "__name__" → mb x = bootBuiltins x) (lim : s₁.heap.NoLimit) (sy : Sys s₁.heap) (hg : s₁.gens = #[])
    (hT : ∀ p ∈ cs, s₁.heap.get? p.2 = some { cls := .none, data := .fields #[] }) (nT : ∀ p ∈ cs, K.lookup p.2 = none) (C : ∀ p ∈ cs, PySem.W.CodeHd s₁.heap p.1 p.2)
    (hbm : ∃ (bm : Addr) (ob : Obj), mg "__builtins__" = some (.ref bm) ∧ bm ≠ builtinsNs ∧ s₁.heap.get? bm = some ob ∧ ob.cls = .type "module" ∧ ob.dict = some builtinsNs ∧ ob.data = .plain)
    (ha : s₁.heap.get? a = some { cls := .type "list", data := .seq vs.toArray }) (hi : IntsAre vs ns) (hl : ns.length ≤ sizeLine) (hr : Room k callerA)
    (F : ∀ base : Heap, K.In base → base.Ns mainGlobals mg → Sys base → (∀ p ∈ cs, TabB base mg p.1 p.2) → FnG P w K mg base CX0 k fa fd [x] sp)
    (hbind : ∀ (s : Shared) (u : Value), BindsTo s fd ⟨[u], []⟩ [(x, u)])
    (hsp : ∀ H : Hp, (∀ p ∈ cs, H p.2 = some (tabX p.2)) → SqL K H a (ns.map V.int) → sp [.ref a] H (fun v H' => v = .bl true ∧ Same H H') fun _ _ _ => False) :
    codeAny (model P w) callerA (.call (.ref fa) ⟨[.ref a], []⟩)
      (fun r s' => r = .ok (.ret (.bool true)) ∧ OldK s₁.heap s'.heap ∧ s'.os = s₁.os ∧ AllBare s'.gens) s₁ := by
  have rv := vals_ints hi
  have lenV := hi.length
  have isT : ∀ b : Addr, b ∈ cs.map (·.2) → s₁.heap.get? b = some { cls := .none, data := .fields #[] } := fun b hb => by
    obtain ⟨p, hp, e⟩ := List.mem_map.mp hb
    rw [← e]
    exact hT p hp
  have aT : a ∉ cs.map (·.2) := fun z => by
    have q := isT a z
    rw [ha] at q
    have z' : Data.seq vs.toArray _ = Data.fields #[] := congrArg Obj.data (Option.some.inj q)
    cases z'
  have memT : ∀ p ∈ cs, p.2 ∈ cs.map (·.2) := fun p hp => List.mem_map.mpr ⟨p, hp, rfl⟩
  have trip0 : TriplesOk (#[] : Array Value).toList := by
    first
      | exact .nil
      | decide
      | simp [TriplesOk]
  have core : ∀ H : Hp, (∀ p ∈ cs, H p.2 = some (tabX p.2)) → (∀ b, H b = none ∨ b ∈ cs.map (·.2) ∨ ∃ o xs, H b = some (.frz o (.lst xs))) → SqL K H a (ns.map V.int) → HOk P w H s₁.heap → (∀ b, H b ≠ none → b = a ∨ b ∈ cs.map (·.2)) → (H a ≠ none → K.lookup a = none) →
      codeAny (model P w) callerA (.call (.ref fa) ⟨[.ref a], []⟩) (fun r s' => r = .ok (.ret (.bool true)) ∧ OldK s₁.heap s'.heap ∧ s'.os = s₁.os ∧ AllBare s'.gens) s₁ := by
    intro H hH hO hS hok hA hK
    have base_of : ∀ {b : Addr} {o : Obj}, s₁.heap.get? b = some o → H b = none → (hidT s₁.heap H).get? b = some o := fun e n => hidT_get e n
    have noD : ∀ {b : Addr} {o : Obj}, s₁.heap.get? b = some o → (∀ vs n, o.data ≠ .seq vs n) → o.data ≠ .fields #[] → H b = none := fun {b o} e h1 h2 => by
      cases q : H b with
      | none => rfl
      | some u =>
        rcases hA b (by rw [q]; simp) with e' | e'
        · rw [e', ha] at e
          cases e
          exact (h1 _ _ rfl).elim
        · rw [isT b e'] at e
          cases e
          exact (h2 rfl).elim
    have noA : ∀ {b : Addr} {o : Obj} {es : Array DictEntry} {ep : Nat}, s₁.heap.get? b = some o → o.data = .dict es ep → H b = none := fun {b o es ep} e d => by
      refine noD e (fun vs n z => ?_) fun z => ?_
      · rw [d] at z
        cases z
      · rw [d] at z
        cases z
    have nsK : ∀ {b : Addr} {m : Str → Option Value}, s₁.heap.Ns b m → (hidT s₁.heap H).Ns b m := fun {b m} ⟨o, es, ep, e, d, r⟩ => ⟨o, es, ep, base_of e (noA e d), d, r⟩
    have hKb : K.In (hidT s₁.heap H) := fun b o e => base_of (KX b o e) (by
      cases q : H b with
      | none => rfl
      | some u =>
        rcases hA b (by rw [q]; simp) with e' | e'
        · rw [e'] at e q
          rw [hK (by rw [q]; simp)] at e
          cases e
        · obtain ⟨p, hp, ep⟩ := List.mem_map.mp e'
          rw [← ep, nT p hp] at e
          cases e)
    have hM : L2.Mod K mg (hidT s₁.heap H) := ⟨hKb, nsK hns, ⟨mb, nsK hb, hbb⟩, let ⟨mc, h1, h2⟩ := lim; ⟨mc, nsK h1, h2⟩⟩
    have sB : Sys (hidT s₁.heap H) := by
      obtain ⟨⟨o, es, n, e, d⟩, ⟨mc, h1, h2⟩, sn⟩ := sy
      refine ⟨⟨o, es, n, hidT_get e (noA e d), d⟩, ⟨mc, nsK h1, h2⟩, noseer_hid sn nsK fun b o e2 hc => hidT_get e2 ?_⟩
      cases q : H b with
      | none => rfl
      | some u =>
        rcases hA b (by rw [q]; simp) with e' | e'
        · rw [e', ha] at e2
          cases e2
          exact absurd (Value.type.inj hc) (by decide)
        · rw [isT b e'] at e2
          cases e2
          cases hc
    have TB : ∀ p ∈ cs, TabB (hidT s₁.heap H) mg p.1 p.2 := fun p hp => by
      have hTp := hT p hp
      refine ⟨?_, ?_, fun z => ?_⟩
      · obtain ⟨o, us, file, tf, flags, tg, inF, text, tt, e1, r1, r2, r3, r4, r5, r6, r7, r8, hne⟩ := C p hp
        refine ⟨o, us, file, tf, flags, tg, inF, text, tt, base_of e1 (noD e1 (fun vs n z => ?_) fun z => ?_), r1, r2, r3, r4, r5, r6, r7, r8, hne⟩
        · rw [r2] at z
          cases z
        · rw [r2] at z
          cases z
          simp at r3
      · obtain ⟨bm, ob, b1, b2, b3, b4, b5, b6⟩ := hbm
        have nG : bm ≠ mainGlobals := fun q => by
          obtain ⟨o, es, ep, e, hd, _⟩ := hns
          rw [q, e] at b3
          cases b3
          rw [hd] at b6
          cases b6
        have nP : bm ≠ p.2 := fun q => by
          rw [q, hTp] at b3
          cases b3
          cases b6
        refine ⟨bm, ob, b1, b2, nG, nP, base_of b3 (noD b3 (fun vs n z => ?_) fun z => ?_), b4, b5, b6⟩
        · rw [b6] at z
          cases z
        · rw [b6] at z
          cases z
      · obtain ⟨o, es, ep, e, hd, _⟩ := hns
        rw [z, hTp] at e
        cases e
        cases hd
    have e0 : Env0 P w K mg (hidT s₁.heap H) callerA [] s₁ H := ⟨rfl, hM, fun b o e => of_hidT e, Nat.le_of_eq (hidT_size _ _), trivial, fun b hb => absurd (show b ∈ ([] : List Addr) from hb) (by simp), hok, .of_eq hg⟩
    refine codeAny_mono ((F _ hKb (nsK hns) sB TB).go callerA [] s₁ H ⟨[.ref a], []⟩ [.ref a] [.ref a] _ _ hr rfl e0 (hbind s₁ (.ref a)) (.cons rfl .nil) (hsp H hH hS)) fun r s' h => ?_
    cases r with
    | error e => exact h.elim
    | ok fl =>
      cases fl with
      | next => exact False.elim h
      | brk => exact False.elim h
      | cont => exact False.elim h
      | ret u =>
        obtain ⟨v, H', os, bare, un, hok', r', q⟩ := h
        obtain ⟨q', sH⟩ : v = .bl true ∧ Same H H' := q
        subst q'
        obtain rfl : u = Value.bool true := r'
        have key : ∀ b o, b ∉ cs.map (·.2) → s₁.heap.get? b = some o → s'.heap.get? b = some o := fun b o nb e => by
          cases q : H b with
          | none => exact un.keep b o e q (by intro z; exact absurd (show b ∈ ([] : List Addr) from z) (by simp)) (by simp)
          | some u =>
            rcases hO b with z | z | ⟨ob, xs, z⟩
            · rw [q] at z; cases z
            · exact absurd z nb
            · have z2 := un.frzs b ob _ z
              obtain ⟨e1, _⟩ := hok b _ z
              obtain ⟨e2, _⟩ := hok' b _ z2
              rw [e] at e1; cases e1
              exact e2
        have grown : ∀ p ∈ cs, ∃ more : Array Value, s'.heap.get? p.2 = some { cls := .none, data := .fields more } := fun p hp => by
          obtain ⟨⟨more, z, _⟩, _⟩ := hok' p.2 _ (sH _ _ (hH p hp))
          exact ⟨_, z⟩
        refine ⟨rfl, ⟨fun b o e => ?_, fun b o e => ?_⟩, os, bare⟩
        · by_cases hb : b ∈ cs.map (·.2)
          · obtain ⟨p, hp, ep⟩ := List.mem_map.mp hb
            obtain ⟨more, hm⟩ := grown p hp
            rw [← ep] at e ⊢
            rw [hT p hp] at e
            cases e
            exact .inr (.inl ⟨((C p hp).tab (hT p hp)).isCodeTable, rfl, #[], more, rfl, by rw [Array.empty_append]; exact hm⟩)
          · exact .inl (key b o hb e)
        · by_cases hb : b ∈ cs.map (·.2)
          · obtain ⟨p, hp, ep⟩ := List.mem_map.mp hb
            obtain ⟨more, hm⟩ := grown p hp
            rw [← ep]
            exact ⟨_, hm⟩
          · exact ⟨o, key b o hb e⟩
  have tok : ∀ b, b ∈ cs.map (·.2) → ∀ H : Hp, ObjOk P w H s₁.heap b (tabX b) := fun b hb H => tabX_ok ⟨#[], isT b hb, trip0⟩
  cases hk : K.lookup a with
  | some o =>
    have e := KX a o hk
    rw [ha] at e
    cases e
    refine core (fun b => if b ∈ cs.map (·.2) then some (tabX b) else none) (fun p hp => if_pos (memT p hp)) (fun b => ?_) (.inr ⟨_, vs.toArray, _, hk, rfl, rfl, rfl, by rw [List.size_toArray, lenV]; exact hl, by simpa using rv⟩) (fun b u z => ?_) (fun b z => ?_) fun z => absurd (show (if a ∈ cs.map (·.2) then some (tabX a) else none) = none from if_neg aT) z
    · by_cases hb : b ∈ cs.map (·.2)
      · exact .inr (.inl hb)
      · exact .inl (if_neg hb)
    · by_cases hb : b ∈ cs.map (·.2)
      · have z' := (if_pos hb).symm.trans z
        cases z'
        exact tok b hb _
      · have z' := (if_neg hb).symm.trans z
        cases z'
    · by_cases hb : b ∈ cs.map (·.2)
      · exact .inr hb
      · exact absurd (if_neg hb) z
  | none =>
    refine core (fun b => if b = a then some (.frz { cls := .type "list", data := .seq vs.toArray } (.lst (ns.map V.int))) else if b ∈ cs.map (·.2) then some (tabX b) else none) (fun p hp => (if_neg (show ¬ p.2 = a from fun z => aT (by rw [← z]; exact memT p hp))).trans (if_pos (memT p hp))) (fun b => ?_)
      (.inl (.inr ⟨{ cls := .type "list", data := .seq vs.toArray }, if_pos rfl⟩)) (fun b u z => ?_) (fun b z => ?_) fun _ => hk
    · by_cases hb : b = a
      · exact .inr (.inr ⟨_, _, if_pos hb⟩)
      · by_cases hb2 : b ∈ cs.map (·.2)
        · exact .inr (.inl hb2)
        · exact .inl ((if_neg hb).trans (if_neg hb2))
    · by_cases hb : b = a
      · have z' := (if_pos hb).symm.trans z
        cases z'
        rw [hb]
        exact ⟨ha, by rw [List.length_map]; exact hl, vs, _, rv, ha⟩
      · have z1 := (if_neg hb).symm.trans z
        by_cases hb2 : b ∈ cs.map (·.2)
        · have z' := (if_pos hb2).symm.trans z1
          cases z'
          exact tok b hb2 _
        · have z' := (if_neg hb2).symm.trans z1
          cases z'
    · by_cases hb : b = a
      · exact .inl hb
      · by_cases hb2 : b ∈ cs.map (·.2)
        · exact .inr hb2
        · exact absurd ((if_neg hb).trans (if_neg hb2)) z

/-- the def x of the text, whose code object stands at c, its table at P -/
structure FunC (K : PySem.W.Frag) (mg : Str → Option Value) (x : Str) (st : Stmt) (c P : Addr) : Prop where
  ex : ∃ (f : Addr) (oc : Value) (od : Option Addr) (kV doc pm : Value) (an : Option Addr) (ct : Value) (osl : Array (Option Value)),
    K.lookup f = some ⟨oc, od, .func (PySem.W.fnOf x x (defArgs st) (defBody st) (defScope st) .none kV doc pm an (.ref c) ct), osl⟩ ∧ PySem.W.codeIn K (.ref c) x = true ∧ PySem.W.keepIn K (.ref f) = true ∧ mg x = some (.ref f)

/-- what the head tells of the law's own table of one def y -/
theorem walk_gt {l : PySem.W.OpenLaw} {n k : Nat} {q : Program} {loose : List Str} {XP : (Str → Option Value) → Heap → Prop} {YP : World → Heap → Prop}
    {d : DefRec} {K : Params → PySem.W.Frag} {sp : World → Sp} {x y : Str} {st : Stmt} (hn : l.most = some n) (hn2 : n ≤ sizeLine) (hdf : d.params.defaults = [])
    (hr : Room k callerA) (him : importsNone q = true) (hrec : ((recsOf q).any fun e => e.name == y) = true) (hY : ∀ (w : World) (h : Heap), YP w h → (K w.params).In h)
    (F : ∀ (w : World) (mg : Str → Option Value) (fa : Addr) (h : Heap), (K w.params).In h → h.Ns mainGlobals mg → mg d.name = some (.ref fa) →
      (∀ c P : Addr, PySem.W.tabIn (K w.params) y = some (c, P) → PySem.W.CodeHd h c P ∧ h.get? P = some { cls := .none, data := .fields #[] }) →
      ∃ (fd : FuncData) (c P : Addr), PySem.W.tabIn (K w.params) y = some (c, P) ∧ (K w.params).lookup P = none ∧ (∀ (s : Shared) (u : Value), BindsTo s fd ⟨[u], []⟩ [(x, u)]) ∧
        (∀ base : Heap, (K w.params).In base → base.Ns mainGlobals mg → Sys base → TabB base mg c P → FnG l.prog w (K w.params) mg base CX0 k fa fd [x] (sp w)) ∧
        ∀ (H : Hp) (a : Addr) (ns : List Int), ns.length ≤ n → H P = some (tabX P) → SqL (K w.params) H a (ns.map V.int) →
          sp w [.ref a] H (fun v H' => v = .bl true ∧ Same H H') fun _ _ _ => False) :
    PySem.W.WalkO q loose XP YP l.row.toRowW d [] (fun f vs => PySem.call f vs) := by
  refine Att.attach_call hn hdf ?_
  intro w s₀ s₁ mg mb fa o pm cd doc a vs ns G Y ho hd hcd hmg hobj hints hlen hg
  have KX := hY w _ Y
  have tb : ∀ c P : Addr, PySem.W.tabIn (K w.params) y = some (c, P) → PySem.W.CodeHd s₁.heap c P ∧ s₁.heap.get? P = some { cls := .none, data := .fields #[] } := by
    intro c P hcP
    cases hf : (recsOf q).find? (fun e => e.name == y) with
    | none =>
      obtain ⟨dL, hm, hn1⟩ := List.any_eq_true.mp hrec
      exact absurd hn1 (by simpa using (List.find?_eq_none.mp hf) dL hm)
    | some dd => exact PySem.W.tab_of G.T KX hf hcP
  obtain ⟨fd, c, P, hcP, hPn, hb, hF, hsp⟩ := F w mg fa _ KX G.T.g hmg tb
  obtain ⟨hC, hP⟩ := tb c P hcP
  refine law_endT (cs := [(c, P)]) KX G.T.g G.T.b G.T.builtins G.T.nolimit (sys_of (G.T.seer him) G.T.nolimit) hg (fun p hp => ?_) (fun p hp => ?_) (fun p hp => ?_) G.T.bmain hobj hints (Nat.le_trans hlen hn2) hr
    (fun base h1 h2 h3 h4 => hF base h1 h2 h3 (h4 (c, P) (List.mem_singleton.mpr rfl))) hb fun H hH hS => hsp H a ns hlen (hH (c, P) (List.mem_singleton.mpr rfl)) hS
  · obtain rfl := List.mem_singleton.mp hp
    exact hP
  · obtain rfl := List.mem_singleton.mp hp
    exact hPn
  · obtain rfl := List.mem_singleton.mp hp
    exact hC
end Vx
namespace Vx
open PySem PySem.Spec PyProof.Rows L2
section
variable {M : Model} {A : Around} {E : Value → Shared → Prop} {s : Shared} {Q : Value → Shared → Prop} {name : Str} {scope : Scope} {L a : Addr} {cd : Value} {pos : Pos} {x : Str} {mg mb m : Str → Option Value} {v : Value}
theorem lw_loc (hn : s.heap.Ns L m) (hv : m x = some v) (h : Q v s)
    (hk : scope.kind = .function := by rfl) (hl : (envOfC name scope L a cd).kindOf x = some .local := by rfl) (hd : (x == ("__debug__" : Str)) = false := by decide) :
    wpAny M A (eval (.Name x pos) (envOfC name scope L a cd)) Q E s := wpAny_Name (wpAny_loadName_local hk hl hn hv h) hd
theorem lw_glob (hg : s.heap.Ns mainGlobals mg) (hv : mg x = some v) (h : Q v s)
    (hk : scope.kind = .function := by rfl) (hl : (envOfC name scope L a cd).kindOf x = some .globalImplicit := by rfl) (hd : (x == ("__debug__" : Str)) = false := by decide) :
    wpAny M A (eval (.Name x pos) (envOfC name scope L a cd)) Q E s := Calls.Name_function_global hk hl (Calls.loadGlobal_global hg hv h) hd
theorem lw_blt (hg : s.heap.Ns mainGlobals mg) (hm : mg x = none) (hb : ∃ mb, s.heap.Ns builtinsNs mb ∧ ∀ x : Str, x ≠ "__name__" → mb x = bootBuiltins x) (hv : bootBuiltins x = some v) (h : Q v s) (hne : x ≠ "__name__" := by decide)
    (hk : scope.kind = .function := by rfl) (hl : (envOfC name scope L a cd).kindOf x = some .globalImplicit := by rfl) (hd : (x == ("__debug__" : Str)) = false := by decide) :
    wpAny M A (eval (.Name x pos) (envOfC name scope L a cd)) Q E s := by
  obtain ⟨mb, h1, h2⟩ := hb
  exact Calls.Name_function_global hk hl (Calls.loadGlobal_builtin hg hm h1 (by rw [h2 x hne]; exact hv) h) hd
end
/-- what a def's frame at L holds, over the heap at its entry -/
structure Lw (h0 : Heap) (L : Addr) (m : Str → Option Value) (h : Heap) : Prop where
  old : ∀ b o, h0.get? b = some o → h.get? b = some o
  ns : h.Ns L m
theorem mod_keeps {K : PySem.W.Frag} {mg : Str → Option Value} {h h' : Heap} (m : L2.Mod K mg h) (k : ∀ b o, h.get? b = some o → h'.get? b = some o) : L2.Mod K mg h' := by
  obtain ⟨a, b, ⟨mb, c1, c2⟩, d⟩ := m
  exact ⟨a.keeps k, b.keeps k, ⟨mb, c1.keeps k, c2⟩, d.keeps k⟩
/-- the same but for one address where no part of it stands -/
theorem mod_but {K : PySem.W.Frag} {mg : Str → Option Value} {h h' : Heap} {P : Addr} {ps : Array Value} (m : L2.Mod K mg h) (hP : K.lookup P = none) (hT : h.get? P = some { cls := .none, data := .fields ps })
    (k : ∀ b o, b ≠ P → h.get? b = some o → h'.get? b = some o) : L2.Mod K mg h' := by
  obtain ⟨a, b, ⟨mb, c1, c2⟩, ⟨mc, d1, d2⟩⟩ := m
  have ns : ∀ {b : Addr} {m : Str → Option Value}, h.Ns b m → h'.Ns b m := fun {b m} ⟨o, es, ep, e, d, r⟩ => ⟨o, es, ep, k _ _ (fun z => by
    rw [z, hT] at e
    cases e
    cases d) e, d, r⟩
  exact ⟨fun b o e => k b o (fun z => by rw [z, hP] at e; cases e) (a b o e), ns b, ⟨mb, ns c1, c2⟩, ⟨mc, ns d1, d2⟩⟩
end Vx
namespace Vx
open PySem PySem.Spec PyProof.Rows L2
def top (i : Nat) : Stmt := PySem.Challenge.pw_allhelms_k10_whole_one_answer_for_each_q.main.body.getD i (.Pass ⟨0, 0, 0, 0⟩)
abbrev s_is_whole : Stmt := top 9
abbrev s_is_fraction : Stmt := top 10
abbrev s_check_number : Stmt := top 11
abbrev s_ratio : Stmt := top 12
abbrev s_ratio_less : Stmt := top 13
abbrev s_ratio_product : Stmt := top 14
abbrev s_ratio_over : Stmt := top 15
abbrev s_without_end : Stmt := top 17
abbrev s_trimmed : Stmt := top 18
abbrev s_cleared : Stmt := top 19
abbrev s_row_over : Stmt := top 20
abbrev s_scaled : Stmt := top 21
abbrev s_whole_split : Stmt := top 22
abbrev s_split_row : Stmt := top 23
abbrev s_quotient_of : Stmt := top 24
abbrev s_common_factor : Stmt := top 25
abbrev s_divided : Stmt := top 26
abbrev s_primitive : Stmt := top 27
abbrev s_first_fraction : Stmt := top 28
abbrev s_whole_worth : Stmt := top 29
abbrev s_whole_digits : Stmt := top 30
abbrev s_goes_into : Stmt := top 31
abbrev s_whole_shared : Stmt := top 32
abbrev s_shared_part : Stmt := top 33
abbrev s_is_row : Stmt := top 35
abbrev s_is_led : Stmt := top 36
abbrev s_is_filled_row : Stmt := top 37
abbrev s_is_led_row : Stmt := top 38
abbrev s_check_row : Stmt := top 39
abbrev s_check_filled_row : Stmt := top 40
abbrev s_is_answer : Stmt := top 43
abbrev s_check_answer : Stmt := top 44
abbrev s_made_answer : Stmt := top 45
abbrev s_answer_of : Stmt := top 46
abbrev s_next_number : Stmt := top 47
abbrev s_first_numbers : Stmt := top 48
abbrev s__law_reel : Stmt := top 50
abbrev s__law_pull : Stmt := top 51
abbrev s__law_one_of : Stmt := top 52
abbrev s__law_lowest : Stmt := top 53
abbrev s__law_plus : Stmt := top 54
abbrev s__law_minus : Stmt := top 55
abbrev s__law_times : Stmt := top 56
abbrev s__law_over : Stmt := top 57
abbrev s__law_part : Stmt := top 58
abbrev s__law_some : Stmt := top 59
abbrev s__law_trim : Stmt := top 60
abbrev s__law_at : Stmt := top 61
abbrev s__law_scaled : Stmt := top 62
abbrev s__law_product : Stmt := top 63
abbrev s__law_parted : Stmt := top 64
abbrev s__law_low : Stmt := top 65
abbrev s__law_divisor : Stmt := top 66
abbrev s__law_drawn : Stmt := top 67
abbrev s__law_led : Stmt := top 68
abbrev s__law_later : Stmt := top 69
abbrev s__law_answer : Stmt := top 70
abbrev s__law_numbers : Stmt := top 71
abbrev s__law_is_whole : Stmt := top 72
abbrev s__law_is_fraction : Stmt := top 73
abbrev s__law_is_row : Stmt := top 74
abbrev s__law_is_led : Stmt := top 75
abbrev s__law_is_answer : Stmt := top 76
abbrev s__law_under : Stmt := top 77
abbrev s__law_right : Stmt := top 78
abbrev s_law : Stmt := top 79
end Vx
namespace Vx
/-! ### n / m in lowest terms -/
theorem fr_self (q : Rat) : Rat.divInt q.num q.den = q := Rat.num_divInt_den q
theorem fr_add (a b : Rat) : Rat.divInt (a.num * b.den + b.num * a.den) (a.den * b.den) = a + b := by
  have h1 : (a.den : Int) ≠ 0 := by have := a.den_nz; omega
  have h2 : (b.den : Int) ≠ 0 := by have := b.den_nz; omega
  rw [← Rat.divInt_add_divInt _ _ h1 h2, fr_self, fr_self]
theorem fr_sub (a b : Rat) : Rat.divInt (a.num * b.den - b.num * a.den) (a.den * b.den) = a - b := by
  have h1 : (a.den : Int) ≠ 0 := by have := a.den_nz; omega
  have h2 : (b.den : Int) ≠ 0 := by have := b.den_nz; omega
  rw [← Rat.divInt_sub_divInt _ _ h1 h2, fr_self, fr_self]
theorem fr_mul (a b : Rat) : Rat.divInt (a.num * b.num) (a.den * b.den) = a * b := by
  rw [← Rat.divInt_mul_divInt, fr_self, fr_self]
theorem fr_div (a b : Rat) : Rat.divInt (a.num * b.den) (a.den * b.num) = a / b := by
  rw [Rat.divInt_eq_div]
  conv => rhs; rw [← fr_self a, ← fr_self b, Rat.divInt_eq_div, Rat.divInt_eq_div]
  have h1 : ((a.den : Int) : Rat) ≠ 0 := by have := a.den_nz; exact_mod_cast this
  have h2 : ((b.den : Int) : Rat) ≠ 0 := by have := b.den_nz; exact_mod_cast this
  push_cast
  by_cases h : (b.num : Rat) = 0
  · rw [h]; grind
  · grind
/-- what ratio and _law_lowest reckon -/
theorem fr_pos {n m : Int} (hm : 0 < m) : n / ((n.natAbs.gcd m.natAbs : Nat) : Int) = (Rat.divInt n m).num ∧ m / ((n.natAbs.gcd m.natAbs : Nat) : Int) = ((Rat.divInt n m).den : Int) := by
  have hs : m.sign = 1 := Int.sign_eq_one_of_pos hm
  have hg : m.gcd n = n.natAbs.gcd m.natAbs := by rw [Int.gcd_comm]; rfl
  constructor
  · rw [Rat.num_divInt, hs, Int.one_mul, hg]
  · rw [Rat.den_divInt, if_neg (by omega), hg, Int.natCast_ediv]
    have : ((m.natAbs : Nat) : Int) = m := Int.natAbs_of_nonneg (by omega)
    rw [this]
theorem fr_neg {n m : Int} (hm : m < 0) : (n.fdiv (-((n.natAbs.gcd m.natAbs : Nat) : Int)) = (Rat.divInt n m).num) ∧ m.fdiv (-((n.natAbs.gcd m.natAbs : Nat) : Int)) = ((Rat.divInt n m).den : Int) := by
  have hs : m.sign = -1 := Int.sign_eq_neg_one_of_neg hm
  have hg : m.gcd n = n.natAbs.gcd m.natAbs := by rw [Int.gcd_comm]; rfl
  have d1 : ((n.natAbs.gcd m.natAbs : Nat) : Int) ∣ n := by
    have := Int.gcd_dvd_left n m
    exact this
  have d2 : ((n.natAbs.gcd m.natAbs : Nat) : Int) ∣ m := by
    have := Int.gcd_dvd_right n m
    exact this
  generalize hG : n.natAbs.gcd m.natAbs = g at *
  have hg0 : 0 < g := by
    rw [← hG]
    exact Nat.gcd_pos_of_pos_right _ (by omega)
  obtain ⟨n', rfl⟩ := d1
  obtain ⟨m', rfl⟩ := d2
  have hgi : (g : Int) ≠ 0 := by omega
  have e1 : ((g : Int) * n').fdiv (-(g : Int)) = -n' := by
    rw [show (g : Int) * n' = (-(g : Int)) * (-n') by grind, Int.mul_fdiv_cancel_left _ (by omega)]
  have e2 : ((g : Int) * m').fdiv (-(g : Int)) = -m' := by
    rw [show (g : Int) * m' = (-(g : Int)) * (-m') by grind, Int.mul_fdiv_cancel_left _ (by omega)]
  have hm' : m' < 0 := by
    by_cases h : m' < 0
    · exact h
    · have : 0 ≤ (g : Int) * m' := Int.mul_nonneg (by omega) (by omega)
      omega
  constructor
  · rw [e1, Rat.num_divInt, hs, hg]
    rw [show (-1 : Int) * ((g : Int) * n') = (g : Int) * (-n') by grind, Int.mul_ediv_cancel_left _ hgi]
  · rw [e2, Rat.den_divInt, if_neg (by omega), hg]
    have e3 : ((g : Int) * m').natAbs = g * m'.natAbs := by rw [Int.natAbs_mul]; simp
    rw [e3, Nat.mul_div_cancel_left _ hg0]
    omega
theorem fr_pos_f {n m : Int} (hm : 0 < m) : (n.fdiv ((n.natAbs.gcd m.natAbs : Nat) : Int) = (Rat.divInt n m).num) ∧ m.fdiv ((n.natAbs.gcd m.natAbs : Nat) : Int) = ((Rat.divInt n m).den : Int) := by
  obtain ⟨a, b⟩ := fr_pos (n := n) hm
  rw [← a, ← b, Int.fdiv_eq_ediv_of_nonneg _ (by omega), Int.fdiv_eq_ediv_of_nonneg _ (by omega)]
  exact ⟨rfl, rfl⟩
/-! ### sizes -/
def Qz (b : Nat) (q : Rat) : Prop := q.num.natAbs < 2 ^ b ∧ q.den < 2 ^ b
theorem Qz.mono {b c : Nat} {q : Rat} (h : Qz b q) (le : b ≤ c) : Qz c q :=
  ⟨Nat.lt_of_lt_of_le h.1 (Nat.pow_le_pow_right (by decide) le), Nat.lt_of_lt_of_le h.2 (Nat.pow_le_pow_right (by decide) le)⟩
theorem qz_div {n m : Int} {b : Nat} (h1 : n.natAbs < 2 ^ b) (h2 : m.natAbs < 2 ^ b) (h0 : m ≠ 0) : Qz b (Rat.divInt n m) := by
  constructor
  · rw [Rat.num_divInt]
    refine Nat.lt_of_le_of_lt ?_ h1
    have : (m.sign * n / (m.gcd n : Int)).natAbs ≤ (m.sign * n).natAbs := Int.natAbs_ediv_le_natAbs _ _
    rw [Int.natAbs_mul] at this
    have hs : m.sign.natAbs ≤ 1 := by
      rcases Int.lt_trichotomy m 0 with h | h | h
      · rw [Int.sign_eq_neg_one_of_neg h]; decide
      · omega
      · rw [Int.sign_eq_one_of_pos h]; decide
    calc _ ≤ m.sign.natAbs * n.natAbs := this
      _ ≤ 1 * n.natAbs := Nat.mul_le_mul_right _ hs
      _ = n.natAbs := Nat.one_mul _
  · rw [Rat.den_divInt, if_neg h0]
    exact Nat.lt_of_le_of_lt (Nat.div_le_self _ _) h2
theorem bz_mul {i j : Int} {a b : Nat} (ha : i.natAbs < 2 ^ a) (hb : j.natAbs < 2 ^ b) : (i * j).natAbs < 2 ^ (a + b) := by
  rw [Int.natAbs_mul, Nat.pow_add]
  exact Nat.mul_lt_mul'' ha hb
theorem bz_add {i j : Int} {a : Nat} (ha : i.natAbs < 2 ^ a) (hb : j.natAbs < 2 ^ a) : (i + j).natAbs < 2 ^ (a + 1) := by
  rw [Nat.pow_succ]
  omega
theorem bz_sub {i j : Int} {a : Nat} (ha : i.natAbs < 2 ^ a) (hb : j.natAbs < 2 ^ a) : (i - j).natAbs < 2 ^ (a + 1) := by
  rw [Nat.pow_succ]
  omega
theorem bz_mono {i : Int} {a b : Nat} (ha : i.natAbs < 2 ^ a) (h : a ≤ b) : i.natAbs < 2 ^ b := Nat.lt_of_lt_of_le ha (Nat.pow_le_pow_right (by decide) h)
theorem Qz.d {b : Nat} {q : Rat} (h : Qz b q) : ((q.den : Nat) : Int).natAbs < 2 ^ b := h.2
theorem Qz.add {a b : Nat} {x y : Rat} (hx : Qz a x) (hy : Qz b y) : Qz (a + b + 1) (x + y) := by
  rw [← fr_add]
  refine qz_div (bz_add (bz_mul hx.1 hy.d) (by rw [Nat.add_comm]; exact bz_mul hy.1 hx.d)) (bz_mono (bz_mul hx.d hy.d) (Nat.le_succ _)) ?_
  have h1 := x.den_nz
  have h2 := y.den_nz
  exact Int.mul_ne_zero (by omega) (by omega)
theorem Qz.sub {a b : Nat} {x y : Rat} (hx : Qz a x) (hy : Qz b y) : Qz (a + b + 1) (x - y) := by
  rw [← fr_sub]
  refine qz_div (bz_sub (bz_mul hx.1 hy.d) (by rw [Nat.add_comm]; exact bz_mul hy.1 hx.d)) (bz_mono (bz_mul hx.d hy.d) (Nat.le_succ _)) ?_
  have h1 := x.den_nz
  have h2 := y.den_nz
  exact Int.mul_ne_zero (by omega) (by omega)
theorem Qz.mul {a b : Nat} {x y : Rat} (hx : Qz a x) (hy : Qz b y) : Qz (a + b) (x * y) := by
  rw [← fr_mul]
  refine qz_div (bz_mul hx.1 hy.1) (bz_mul hx.d hy.d) ?_
  have h1 := x.den_nz
  have h2 := y.den_nz
  exact Int.mul_ne_zero (by omega) (by omega)
theorem qz0 {b : Nat} (h : 0 < b) : Qz b 0 := ⟨Nat.two_pow_pos b, Nat.one_lt_two_pow (by omega)⟩
theorem qz1 {b : Nat} (h : 0 < b) : Qz b 1 := ⟨Nat.one_lt_two_pow (by omega), Nat.one_lt_two_pow (by omega)⟩
/-! ### rows by their worths -/
def ev : List Rat → Rat → Rat
  | [], _ => 0
  | c :: l, x => c + x * ev l x
/-- the last number is not 0 -/
def Tr (l : List Rat) : Prop := ∀ h : l ≠ [], l.getLast h ≠ 0
theorem tr_nil : Tr [] := fun h => absurd rfl h
theorem Tr.tail {c : Rat} {l : List Rat} (h : Tr (c :: l)) : Tr l := fun hn => by
  have := h (List.cons_ne_nil _ _)
  rwa [List.getLast_cons hn] at this
theorem Tr.ne {c : Rat} (h : Tr [c]) : c ≠ 0 := h (List.cons_ne_nil _ _)
theorem ev_zeros {l : List Rat} (h : ∀ c ∈ l, c = 0) (x : Rat) : ev l x = 0 := by
  induction l with
  | nil => rfl
  | cons c l ih =>
    show c + x * ev l x = 0
    rw [ih fun d hd => h d (List.mem_cons_of_mem _ hd), h c List.mem_cons_self]
    grind
/-- far out a row that is not nought is far from 0 -/
theorem ev_far (l : List Rat) (h : ∃ c ∈ l, c ≠ 0) : ∃ X e : Rat, 1 ≤ X ∧ 0 < e ∧ ∀ x, X ≤ x → e ≤ ev l x ∨ ev l x ≤ -e := by
  induction l with
  | nil => obtain ⟨c, hc, _⟩ := h; cases hc
  | cons c l ih =>
    by_cases hl : ∃ d ∈ l, d ≠ 0
    · obtain ⟨X, e, hX, he, hf⟩ := ih hl
      have hen : e ≠ 0 := by grind
      refine ⟨X + (c.abs + 1) / e, 1, ?_, by decide, fun x hx => ?_⟩
      · have h1 : 0 ≤ c.abs := Rat.abs_nonneg
        have h2 : 0 ≤ (c.abs + 1) / e := by
          rw [Rat.div_def]
          exact Rat.mul_nonneg (by grind) (Rat.le_of_lt (Rat.inv_pos.mpr he))
        grind
      · have h1 : 0 ≤ c.abs := Rat.abs_nonneg
        have h2 : 0 ≤ (c.abs + 1) / e := by
          rw [Rat.div_def]
          exact Rat.mul_nonneg (by grind) (Rat.le_of_lt (Rat.inv_pos.mpr he))
        have hxX : X ≤ x := by grind
        have hx1 : (c.abs + 1) / e ≤ x := by grind
        have hx0 : 0 ≤ x := by grind
        have h3 : c.abs + 1 ≤ x * e := by
          have h4 : ((c.abs + 1) / e) * e ≤ x * e := Rat.mul_le_mul_of_nonneg_right hx1 (Rat.le_of_lt he)
          have h5 : ((c.abs + 1) / e) * e = c.abs + 1 := by grind
          rw [h5] at h4
          exact h4
        have hc1 : c ≤ c.abs := by unfold Rat.abs; split <;> grind
        have hc2 : -c ≤ c.abs := by unfold Rat.abs; split <;> grind
        show 1 ≤ c + x * ev l x ∨ c + x * ev l x ≤ -1
        rcases hf x hxX with h | h
        · left
          have h6 : x * e ≤ x * ev l x := Rat.mul_le_mul_of_nonneg_left h hx0
          grind
        · right
          have h6 : x * ev l x ≤ x * (-e) := Rat.mul_le_mul_of_nonneg_left h hx0
          grind
    · have hz : ∀ d ∈ l, d = 0 := fun d hd => Classical.byContradiction fun z => hl ⟨d, hd, z⟩
      have hc : c ≠ 0 := by
        obtain ⟨d, hd, hne⟩ := h
        rcases List.mem_cons.mp hd with rfl | hd
        · exact hne
        · exact absurd (hz d hd) hne
      have e1 : ∀ x, ev (c :: l) x = c := fun x => by
        show c + x * ev l x = c
        rw [ev_zeros hz]
        grind
      rcases (by grind : c < 0 ∨ c = 0 ∨ 0 < c) with hc0 | hc0 | hc0
      · exact ⟨1, -c, by decide, by grind, fun x _ => by rw [e1]; right; grind⟩
      · exact absurd hc0 hc
      · exact ⟨1, c, by decide, hc0, fun x _ => by rw [e1]; left; grind⟩
theorem tr_some {c : Rat} {l : List Rat} (h : Tr (c :: l)) : ∃ d ∈ c :: l, d ≠ 0 := ⟨_, List.getLast_mem (List.cons_ne_nil _ _), h (List.cons_ne_nil _ _)⟩
/-- rows of no worth but 0 -/
theorem ev_nought {l : List Rat} (h : ∀ x, ev l x = 0) : ∀ c ∈ l, c = 0 := fun c hc => Classical.byContradiction fun z => by
  obtain ⟨X, e, h1, h2, h3⟩ := ev_far l ⟨c, hc, z⟩
  have := h3 X Rat.le_refl
  rw [h] at this
  grind
def ladd : List Rat → List Rat → List Rat
  | [], b => b
  | a, [] => a
  | x :: a, y :: b => (x + y) :: ladd a b
theorem ev_ladd : ∀ (a b : List Rat) (x : Rat), ev (ladd a b) x = ev a x + ev b x
  | [], b, x => by
    show ev b x = 0 + ev b x
    grind
  | c :: a, [], x => by
    show ev (c :: a) x = ev (c :: a) x + 0
    grind
  | c :: a, d :: b, x => by
    show (c + d) + x * ev (ladd a b) x = (c + x * ev a x) + (d + x * ev b x)
    rw [ev_ladd a b x]
    grind
theorem ev_scale (k : Rat) (a : List Rat) (x : Rat) : ev (a.map (k * ·)) x = k * ev a x := by
  induction a with
  | nil => show (0 : Rat) = k * 0; grind
  | cons c a ih =>
    show k * c + x * ev (a.map (k * ·)) x = k * (c + x * ev a x)
    rw [ih]
    grind
theorem ladd_nil (a : List Rat) : ladd a [] = a := by cases a <;> rfl
/-- two rows of the same worths are the same -/
theorem ev_inj : ∀ {a b : List Rat}, Tr a → Tr b → (∀ x, ev a x = ev b x) → a = b := by
  have key : ∀ (a b : List Rat), Tr a → Tr b → (∀ c ∈ ladd a (b.map ((-1 : Rat) * ·)), c = 0) → a = b := by
    intro a
    induction a with
    | nil =>
      intro b _ hb h
      cases b with
      | nil => rfl
      | cons d b =>
        exfalso
        obtain ⟨c, hc, hne⟩ := tr_some hb
        have := h ((-1 : Rat) * c) (List.mem_map.mpr ⟨c, hc, rfl⟩)
        grind
    | cons c a ih =>
      intro b ha hb h
      cases b with
      | nil =>
        exfalso
        obtain ⟨d, hd, hne⟩ := tr_some ha
        exact hne (h d (by show d ∈ ladd (c :: a) []; rw [ladd_nil]; exact hd))
      | cons d b =>
        have h1 : c + -1 * d = 0 := h _ List.mem_cons_self
        have h2 := ih b ha.tail hb.tail fun e he => h e (List.mem_cons_of_mem _ he)
        rw [h2]
        have : c = d := by grind
        rw [this]
  intro a b ha hb h
  refine key a b ha hb (ev_nought fun x => ?_)
  rw [ev_ladd, ev_scale, h]
  grind
theorem ev_append (a b : List Rat) (x : Rat) : ev (a ++ b) x = ev a x + x ^ a.length * ev b x := by
  induction a with
  | nil => show ev b x = 0 + x ^ 0 * ev b x; rw [Rat.pow_zero]; grind
  | cons c a ih =>
    show c + x * ev (a ++ b) x = (c + x * ev a x) + x ^ (a.length + 1) * ev b x
    rw [ih, Rat.pow_succ]
    grind
theorem ev_set {l : List Rat} {k : Nat} (h : k < l.length) (v x : Rat) : ev (l.set k (l[k] + v)) x = ev l x + v * x ^ k := by
  induction l generalizing k with
  | nil => exact absurd h (Nat.not_lt_zero _)
  | cons c l ih =>
    cases k with
    | zero =>
      show (c + v) + x * ev l x = (c + x * ev l x) + v * x ^ 0
      rw [Rat.pow_zero]
      grind
    | succ k =>
      have hk : k < l.length := Nat.lt_of_succ_lt_succ h
      show c + x * ev (l.set k (l[k] + v)) x = (c + x * ev l x) + v * x ^ (k + 1)
      rw [ih hk, Rat.pow_succ]
      grind
theorem ev_replicate0 (n : Nat) (x : Rat) : ev (List.replicate n 0) x = 0 := ev_zeros (fun c hc => (List.mem_replicate.mp hc).2) x
end Vx
namespace Vx
/-- i is below 2 ^ b -/
def Bz (b : Nat) (i : Int) : Prop := i.natAbs < 2 ^ b
theorem Bz.mono {b c : Nat} {i : Int} (h : Bz b i) (le : b ≤ c) : Bz c i := bz_mono h le
theorem Bz.mul {a b : Nat} {i j : Int} (hi : Bz a i) (hj : Bz b j) : Bz (a + b) (i * j) := bz_mul hi hj
theorem Bz.add {a : Nat} {i j : Int} (hi : Bz a i) (hj : Bz a j) : Bz (a + 1) (i + j) := bz_add hi hj
theorem Bz.sub {a : Nat} {i j : Int} (hi : Bz a i) (hj : Bz a j) : Bz (a + 1) (i - j) := bz_sub hi hj
theorem Qz.n {b : Nat} {q : Rat} (h : Qz b q) : Bz b q.num := h.1
theorem Qz.dd {b : Nat} {q : Rat} (h : Qz b q) : Bz b (q.den : Int) := h.2
theorem Qz.of_div {n m : Int} {b : Nat} (h1 : Bz b n) (h2 : Bz b m) (h0 : m ≠ 0) : Qz b (Rat.divInt n m) := qz_div h1 h2 h0
end Vx
namespace Vx
theorem rpow_add (x : Rat) (i j : Nat) : x ^ (i + j) = x ^ i * x ^ j := by
  induction j with
  | zero => rw [Nat.add_zero, Rat.pow_zero]; grind
  | succ j ih => rw [← Nat.add_assoc, Rat.pow_succ, ih, Rat.pow_succ]; grind
end Vx
namespace Vx
open PySem PySem.Spec PyProof.Rows L2
/-- // by any divisor other than 0 below 2 ^ 9000 -/
def CDivX (_ j : Int) : Prop := j ≠ 0 ∧ j.natAbs.log2 < 9000
theorem cdivx {i j : Int} {b : Nat} (h0 : j ≠ 0) (h : Bz b j) (hb : b ≤ 9000) : CDivX i j := by
  refine ⟨h0, ?_⟩
  exact (Nat.log2_lt (by omega)).mpr (Nat.lt_of_lt_of_le h (Nat.pow_le_pow_right (by decide) hb))
theorem cmulx {i j : Int} {a b : Nat} (ha : Bz a i) (hb : Bz b j) (h : a + b ≤ 100000) : CMulX i j := mulx_ok ha hb (by omega)
section
variable {X : Cx}
theorem op_fdivX : OpR X (binaryOp .FloorDiv) (rI CDivX fun i j => .int (i.fdiv j)) := opI fun i j _ _ _ _ _ hc q =>
  floordiv_int hc.1 q (.inl (PyProof.noPylong_of_log2 hc.2))
/-- math.lcm of two ints below 2 ^ 9000 -/
def rLcm : List V → Hp → VK → Prop := fun vs H Q => ∃ a b : Int, vs = [.int a, .int b] ∧ Bz 9000 a ∧ Bz 9000 b ∧ Q (.int ((Nat.lcm a.natAbs b.natAbs : Nat) : Int)) H
theorem log_lt {n b : Nat} (hb : 0 < b) (h : n < 2 ^ b) : n.log2 < b := by
  by_cases h0 : n = 0
  · subst h0
    rw [Nat.log2_zero]
    exact hb
  · exact (Nat.log2_lt h0).mpr h
theorem cr_lcm : CallR X (.builtin "math.lcm") rLcm := by
  intro pins s σ H vs us Q I r h
  obtain ⟨a, b, rfl, ha, hb, q⟩ := h
  obtain ⟨t, u, rfl⟩ := Vals.int2 r
  have p1 : 1 < 2 ^ 9000 := Nat.one_lt_two_pow (by decide)
  have h1 : (max 1 a.natAbs).log2 < 9000 := log_lt (by decide) (by
    rcases Nat.le_total 1 a.natAbs with z | z
    · rw [Nat.max_eq_right z]; exact ha
    · rw [Nat.max_eq_left z]; exact p1)
  have h2 : (max a.natAbs b.natAbs).log2 < 9000 := log_lt (by decide) (by
    rcases Nat.le_total a.natAbs b.natAbs with z | z
    · rw [Nat.max_eq_right z]; exact hb
    · rw [Nat.max_eq_left z]; exact ha)
  have e1 : (Nat.lcm 1 a.natAbs).lcm b.natAbs = Nat.lcm a.natAbs b.natAbs := by rw [Nat.lcm_one_left]
  have hsz : ((((Nat.lcm 1 a.natAbs).lcm b.natAbs : Nat) : Int)).natAbs.log2 < bitsLine := by
    rw [e1, Int.natAbs_natCast]
    have hl : Nat.lcm a.natAbs b.natAbs ≤ a.natAbs * b.natAbs := by
      unfold Nat.lcm
      exact Nat.div_le_self _ _
    have hm : Nat.lcm a.natAbs b.natAbs < 2 ^ 18000 := by
      rw [show (18000 : Nat) = 9000 + 9000 from rfl, Nat.pow_add]
      exact Nat.lt_of_le_of_lt hl (Nat.mul_lt_mul'' ha hb)
    have := log_lt (by decide) hm
    rw [bitsLine_eq]
    omega
  refine PySem.call_function_meets PySem.W.MGF.kind_lcm PySem.W.MGF.plain_lcm PySem.W.MGF.entry_lcm (PySem.W.MGF.args_lcm _ _) (PySem.W.mg_run_lcm a t b u (by omega) (by omega) hsz).meets ?_
  rw [e1]
  exact ⟨.int _, H, I.tok _, ⟨_, rfl⟩, q⟩
/-- type(x), x a tuple -/
theorem call_typeT : CallR X (.type "type") (fun vs H Q => ∃ a xs, vs = [.ref a] ∧ SqT X.K H a xs ∧ Q (.ty "tuple") H) := by
  intro pins s σ H xs us Q I r h
  obtain ⟨a, ys, rfl, hq, q⟩ := h
  obtain ⟨u, rfl, rx⟩ := vals1 r
  cases rx
  obtain ⟨its, rv, p, _⟩ := I.tuple hq
  exact call_type_of p.typeIs (by decide +kernel) ⟨.ty "tuple", H, I, rfl, q⟩
/-- type(x), x an int -/
theorem call_typeI : CallR X (.type "type") (fun vs H Q => ∃ i, vs = [.int i] ∧ Q (.ty "int") H) := by
  intro pins s σ H xs us Q I r h
  obtain ⟨i, rfl, q⟩ := h
  obtain ⟨u, rfl, rx⟩ := vals1 r
  obtain ⟨t, rfl⟩ := rx
  exact call_type_of (typeIs_int _ i t) (by decide +kernel) ⟨.ty "int", H, I, rfl, q⟩
end

theorem tuple_mul1 (l : Addr) (items : Array Value) (n : Nat) (dd : Option Addr) (sl : Array (Option Value)) (u : Tok) :
    Meets (Builtin.«tuple.__mul__» ⟨[.ref l, .int 1 u], []⟩) (fun _ R s => s.heap.get? l = some { cls := .type "tuple", dict := dd, data := .seq items n, slots := sl } ∧ R (.ok (.ret (Value.ref l))) s) :=
  .of_wp fun prog w A R s h => by
    obtain ⟨hp, g, d, tk, os⟩ := s
    obtain ⟨hl, h⟩ := h
    have f1 := AutoSeq1.idx_int
    have c1 : (items.isEmpty || ((1 : Int) == 1)) = true := by simp
    wp_walk using wpAny_loadPart' hl
    repeat (first
      | (refine wpAny_ite_true (decide_eq_true (by rw [c1])) ?_; wp_walk using wpAny_loadPart' hl))
    exact ⟨_, rfl, h⟩
theorem tuple_mul0 (l : Addr) (items : Array Value) (n : Nat) (dd : Option Addr) (sl : Array (Option Value)) (u : Tok) (hne : items.isEmpty = false) :
    Meets (Builtin.«tuple.__mul__» ⟨[.ref l, .int 0 u], []⟩) (fun _ R s => s.heap.get? l = some { cls := .type "tuple", dict := dd, data := .seq items n, slots := sl } ∧ R (.ok (.ret (Value.ref s.heap.objs.size))) { s with heap := s.heap.push { cls := Value.type "tuple", data := Data.seq #[] }, toks := s.toks }) :=
  .of_wp fun prog w A R s h => by
    obtain ⟨hp, g, d, tk, os⟩ := s
    obtain ⟨hl, h⟩ := h
    have f1 := AutoSeq1.idx_int
    have c1 : (items.isEmpty || ((0 : Int) == 1)) = false := by rw [hne]; decide
    wp_walk using wpAny_loadPart' hl
    repeat (first
      | (refine wpAny_ite_false (decide_eq_false (by rw [c1]; exact Bool.false_ne_true)) ?_; wp_walk using wpAny_loadPart' hl)
      | (refine wpAny_ite_true (decide_eq_true (by simp)) ?_; wp_walk using wpAny_loadPart' hl))
    exact ⟨_, rfl, h⟩

/-- tuple * int, from 0 on -/
def rRepA (K : PySem.W.Frag) : R2 := fun x y H Q => ∃ l k xs, x = .ref l ∧ y = .int k ∧ SqT K H l xs ∧ xs ≠ [] ∧ 0 ≤ k ∧ k ≤ 1000 ∧ xs.length ≤ 1000 ∧ (k = 1 → Q (.ref l) H) ∧ (k ≠ 1 → ∀ p, H p = none → Q (.ref p) (upd H p (.tup (List.replicate k.toNat xs).flatten)))
theorem op_repA {X : Cx} : OpR X (binaryOp .Mult) (rRepA X.K) := by
  intro pins s σ H x y v u Q I rx ry h
  obtain ⟨l, k, xs, rfl, rfl, hT, hne, h1, h2, hz, q1, q2⟩ := h
  by_cases hk2 : 2 ≤ k
  · exact op_repT pins s σ H _ _ v u Q I rx ry ⟨l, k, xs, rfl, rfl, hT, hne, hk2, h2, hz, q2 (by omega)⟩
  cases rx
  obtain ⟨t, rfl⟩ := ry
  obtain ⟨its, r, ⟨⟨cls, dd, data, sl⟩, ho, hc, n, hd⟩, hs⟩ := I.tuple hT
  simp only at hc hd
  subst hc hd
  have hle : its.length = xs.length := r.length.symm
  have hn : its ≠ [] := fun e => hne (by
    rw [e] at hle
    exact List.eq_nil_of_length_eq_zero hle.symm)
  have hi : its.toArray.isEmpty = false := by
    cases its with
    | nil => exact absurd rfl hn
    | cons a b => rfl
  have hk : k = 0 ∨ k = 1 := by omega
  rcases hk with rfl | rfl
  · refine wpAny_binaryOp_repeat_ref (T := "tuple") (U := "int") (by decide) ⟨_, ho, rfl⟩ (fun s' => typeIs_int s' 0 t) noFill_tuple_mul F.fills_int_mul F.slot_int_rmul repeat_tuple F.slot_int_index.lookup
      (call_meets F.slot_int_rmul (typeIs_int s 0 t) F.entry_int_rmul (F.args_int_rmul_2 _ _) (int_rmul_tuple 0 t l its.toArray n dd sl)
        ⟨ho, rfl, ⟨_, ho, rfl⟩, call_meets F.slot_tuple_mul ⟨_, ho, rfl⟩ F.entry_tuple_mul (F.args_tuple_mul_2 _ _) (tuple_mul0 l its.toArray n dd sl t hi) ⟨ho, ?_⟩⟩)
    refine ⟨.ref s.heap.objs.size, _, I.laid (t' := s.toks) (o := .tup []) (fun b ob q => Heap.get?_push_of_some _ q) (Nat.le_refl _) ?_, rfl, q2 (by decide) _ (I.hok.fresh (Nat.le_refl _))⟩
    exact ⟨Nat.zero_le _, [], .nil, IsTup.new _ _⟩
  · exact wpAny_binaryOp_repeat_ref (T := "tuple") (U := "int") (by decide) ⟨_, ho, rfl⟩ (fun s' => typeIs_int s' 1 t) noFill_tuple_mul F.fills_int_mul F.slot_int_rmul repeat_tuple F.slot_int_index.lookup
      (call_meets F.slot_int_rmul (typeIs_int s 1 t) F.entry_int_rmul (F.args_int_rmul_2 _ _) (int_rmul_tuple 1 t l its.toArray n dd sl)
        ⟨ho, rfl, ⟨_, ho, rfl⟩, call_meets F.slot_tuple_mul ⟨_, ho, rfl⟩ F.entry_tuple_mul (F.args_tuple_mul_2 _ _) (tuple_mul1 l its.toArray n dd sl t) ⟨ho, ⟨.ref l, H, I, rfl, q1 rfl⟩⟩⟩)
theorem sz_of {n : Nat} (m : Nat) (h : n = m) (hm : m ≤ 1000) : n ≤ sizeLine := by
  rw [sizeLine_eq]
  omega
theorem tif {c : Prop} [Decidable c] {A B : Prop} (h1 : c → A) (h2 : ¬ c → B) : if decide c = true then A else B := by
  by_cases h : c
  · rw [decide_eq_true h, if_pos rfl]
    exact h1 h
  · rw [decide_eq_false h, if_neg Bool.false_ne_true]
    exact h2 h
/-! ### what stays -/
/-- all but lists stays -/
def SameT (H H' : Hp) : Prop := ∀ b o, H b = some o → (∀ xs, o ≠ .lst xs) → H' b = some o
theorem SameT.refl (H : Hp) : SameT H H := fun _ _ e _ => e
theorem SameT.trans {H H1 H2 : Hp} (a : SameT H H1) (b : SameT H1 H2) : SameT H H2 := fun c o e n => b c o (a c o e n) n
theorem same_t {H H' : Hp} (e : Same H H') : SameT H H' := fun b o h _ => e b o h
theorem samet_lst {H : Hp} {D : Addr} {xs ys : List V} (h : H D = some (.lst xs)) : SameT H (upd H D (.lst ys)) := fun b o e n => by
  have : b ≠ D := fun z => by
    rw [z, h] at e
    cases e
    exact n _ rfl
  rw [upd_ne this]
  exact e
theorem samet_seqT {K : PySem.W.Frag} {H H' : Hp} {a : Addr} {xs : List V} (e : SameT H H') (h : SqT K H a xs) : SqT K H' a xs := by
  rcases h with (h | ⟨o, h⟩) | h
  · exact Or.inl (Or.inl (e _ _ h fun _ z => by cases z))
  · exact Or.inl (Or.inr ⟨o, e _ _ h fun _ z => by cases z⟩)
  · exact Or.inr h
/-! ### fractions, rows -/
/-- v is the fraction q -/
def FrT (K : PySem.W.Frag) (H : Hp) (v : V) (q : Rat) : Prop := ∃ a, v = .ref a ∧ SqT K H a [.int q.num, .int q.den]
theorem FrT.mono {K : PySem.W.Frag} {H H' : Hp} {v : V} {q : Rat} (e : SameT H H') (h : FrT K H v q) : FrT K H' v q := by
  obtain ⟨a, r, s⟩ := h
  exact ⟨a, r, samet_seqT e s⟩
/-- things of a list, one by one -/
inductive Al (R : V → Rat → Prop) : List V → List Rat → Prop
  | nil : Al R [] []
  | cons {v : V} {q : Rat} {vs : List V} {qs : List Rat} : R v q → Al R vs qs → Al R (v :: vs) (q :: qs)
theorem Al.length {R : V → Rat → Prop} : ∀ {vs : List V} {qs : List Rat}, Al R vs qs → vs.length = qs.length
  | _, _, .nil => rfl
  | _, _, .cons _ t => by rw [List.length_cons, List.length_cons, t.length]
theorem Al.mono {R S : V → Rat → Prop} (f : ∀ (v : V) (q : Rat), R v q → S v q) : ∀ {vs : List V} {qs : List Rat}, Al R vs qs → Al S vs qs
  | _, _, .nil => .nil
  | _, _, .cons h t => .cons (f _ _ h) (t.mono f)
theorem Al.get {R : V → Rat → Prop} {vs : List V} {qs : List Rat} (h : Al R vs qs) {i : Nat} {v : V} (e : vs[i]? = some v) : ∃ q, qs[i]? = some q ∧ R v q := by
  induction h generalizing i with
  | nil => simp at e
  | cons h t ih =>
    cases i with
    | zero =>
      simp at e
      subst e
      exact ⟨_, rfl, h⟩
    | succ i => exact ih (by simpa using e)
theorem Al.get' {R : V → Rat → Prop} {vs : List V} {qs : List Rat} (h : Al R vs qs) {i : Nat} {q : Rat} (e : qs[i]? = some q) : ∃ v, vs[i]? = some v ∧ R v q := by
  induction h generalizing i with
  | nil => simp at e
  | cons h t ih =>
    cases i with
    | zero =>
      simp at e
      subst e
      exact ⟨_, rfl, h⟩
    | succ i => exact ih (by simpa using e)
theorem Al.of {R : V → Rat → Prop} : ∀ {vs : List V} {qs : List Rat}, vs.length = qs.length → (∀ (i : Nat) (v : V) (q : Rat), vs[i]? = some v → qs[i]? = some q → R v q) → Al R vs qs
  | [], [], _, _ => .nil
  | [], _ :: _, h, _ => by cases h
  | _ :: _, [], h, _ => by cases h
  | v :: vs, q :: qs, h, f => .cons (f 0 v q rfl rfl) (Al.of (by simpa using h) fun i a b e1 e2 => f (i + 1) a b (by simpa using e1) (by simpa using e2))
theorem Al.append {R : V → Rat → Prop} {us vs : List V} {ps qs : List Rat} (h : Al R us ps) (t : Al R vs qs) : Al R (us ++ vs) (ps ++ qs) := by
  induction h with
  | nil => exact t
  | cons h _ ih => exact .cons h ih
theorem Al.take {R : V → Rat → Prop} {vs : List V} {qs : List Rat} (h : Al R vs qs) (n : Nat) : Al R (vs.take n) (qs.take n) := by
  induction h generalizing n with
  | nil => simp; exact .nil
  | cons h t ih =>
    cases n with
    | zero => exact .nil
    | succ n => exact .cons h (ih n)
theorem Al.drop {R : V → Rat → Prop} {vs : List V} {qs : List Rat} (h : Al R vs qs) (n : Nat) : Al R (vs.drop n) (qs.drop n) := by
  induction h generalizing n with
  | nil => simp; exact .nil
  | cons h t ih =>
    cases n with
    | zero => exact .cons h t
    | succ n => exact ih n
abbrev FrA (K : PySem.W.Frag) (H : Hp) : List V → List Rat → Prop := Al (FrT K H)
theorem fra_mono {K : PySem.W.Frag} {H H' : Hp} {vs : List V} {qs : List Rat} (e : SameT H H') (h : FrA K H vs qs) : FrA K H' vs qs := h.mono fun _ _ => FrT.mono e
/-- v is the tuple of the fractions qs -/
def RwT (K : PySem.W.Frag) (H : Hp) (v : V) (qs : List Rat) : Prop := ∃ a vs, v = .ref a ∧ SqT K H a vs ∧ FrA K H vs qs
theorem RwT.mono {K : PySem.W.Frag} {H H' : Hp} {v : V} {qs : List Rat} (e : SameT H H') (h : RwT K H v qs) : RwT K H' v qs := by
  obtain ⟨a, vs, r, s, f⟩ := h
  exact ⟨a, vs, r, samet_seqT e s, fra_mono e f⟩
/-- the data of a fraction, of a row -/
def dFr (q : Rat) : PyData := .tuple [.int q.num, .int q.den]
def dRw (qs : List Rat) : PyData := .tuple (qs.map dFr)
theorem rp_fr {K : PySem.W.Frag} {H : Hp} {v : V} {q : Rat} (h : FrT K H v q) : Rp K H v (dFr q) := by
  obtain ⟨a, rfl, s⟩ := h
  exact .tup s (.cons (.int _) (.cons (.int _) .nil))
theorem rpa_fr {K : PySem.W.Frag} {H : Hp} : ∀ {vs : List V} {qs : List Rat}, FrA K H vs qs → RpA K H vs (qs.map dFr)
  | _, _, .nil => .nil
  | _, _, .cons h t => .cons (rp_fr h) (rpa_fr t)
theorem rp_rw {K : PySem.W.Frag} {H : Hp} {v : V} {qs : List Rat} (h : RwT K H v qs) : Rp K H v (dRw qs) := by
  obtain ⟨a, vs, rfl, s, f⟩ := h
  exact .tup s (rpa_fr f)
/-! ### a comprehension, item by item -/
theorem lc_map {J : It} {n : Nat} {G : Hp → Prop} {Y : Nat → Hp → V → Hp → Prop} (w : Walk J n G Y) {g : TG} {te : TE} {vs : List Nat} {σ : L2.St} {H1 : Hp} {D : Addr} {Qd : Hp → Prop}
    (hD : H1 D = none) (hn : n < sizeLine) (Pa : Nat → Hp → V → Prop) (stab : ∀ i H H' v, SameT H H' → Pa i H v → Pa i H' v) (hG : ∀ H, Same H1 H → G H)
    (hs : ∀ i x H H', i < n → Same H1 H → (∃ xs, H D = some (.lst xs)) → Y i H x H' → ∀ Fin : V → Hp → Prop, (∀ y H4, Same H H4 → Pa i H4 y → Fin y H4) →
      g x (wipe σ vs) H' fun σ2 H2 => wipe σ2 vs = wipe σ vs ∧ te σ2 H2 Fin)
    (hd : ∀ H acc, Same H1 H → H D = some (.lst acc) → acc.length = n → (∀ i y, acc[i]? = some y → Pa i H y) → Qd H) :
    ∃ W : Nat → Nat → Hp → Prop, (∃ m, W 0 m (upd H1 D (.lst []))) ∧ ∀ i m H, W i m H →
      (J.stop i H ∧ Qd H) ∨ (J.go i H ∧ ∃ Nx : Hp → Prop, (∀ H', Nx H' → ∃ m', m' < m ∧ W (i + 1) m' H') ∧ ∀ x H', J.yld i H x H' → g x (wipe σ vs) H' fun σ2 H2 => wipe σ2 vs = wipe σ vs ∧ tYes σ2 H2 fun b H3 =>
        if b = true then te σ2 H3 fun y H4 => ∃ acc, H4 D = some (.lst acc) ∧ acc.length < sizeLine ∧ Nx (upd H4 D (.lst (acc ++ [y]))) else Nx H3) := by
  refine lc_it w (fun i H => Same H1 H ∧ ∃ acc, H D = some (.lst acc) ∧ acc.length = i ∧ ∀ j y, acc[j]? = some y → Pa j H y) ⟨same_new hD, [], upd_same, rfl, fun j y e => by simp at e⟩ (fun i H _ p => hG H p.1) ?_ ?_
  · rintro i x H H' hi ⟨s0, acc, e0, l0, p0⟩ hy
    have hs' := hs i x H H' hi s0 ⟨_, e0⟩ hy (fun y H4 => ∃ acc, H4 D = some (.lst acc) ∧ acc.length < sizeLine ∧ (Same H1 (upd H4 D (.lst (acc ++ [y]))) ∧ ∃ acc', upd H4 D (.lst (acc ++ [y])) D = some (.lst acc') ∧ acc'.length = i + 1 ∧ ∀ j y', acc'[j]? = some y' → Pa j (upd H4 D (.lst (acc ++ [y]))) y')) ?_
    · have e1 : (fun (σ2 : L2.St) (H2 : Hp) => wipe σ2 vs = wipe σ vs ∧ tYes σ2 H2 fun b H3 => if b = true then te σ2 H3 (fun y H4 => ∃ acc, H4 D = some (.lst acc) ∧ acc.length < sizeLine ∧ (Same H1 (upd H4 D (.lst (acc ++ [y]))) ∧ ∃ acc', upd H4 D (.lst (acc ++ [y])) D = some (.lst acc') ∧ acc'.length = i + 1 ∧ ∀ j y', acc'[j]? = some y' → Pa j (upd H4 D (.lst (acc ++ [y]))) y'))
            else (Same H1 H3 ∧ ∃ acc, H3 D = some (.lst acc) ∧ acc.length = i + 1 ∧ ∀ j y, acc[j]? = some y → Pa j H3 y)) = fun σ2 H2 => wipe σ2 vs = wipe σ vs ∧ te σ2 H2 (fun y H4 => ∃ acc, H4 D = some (.lst acc) ∧ acc.length < sizeLine ∧ (Same H1 (upd H4 D (.lst (acc ++ [y]))) ∧ ∃ acc', upd H4 D (.lst (acc ++ [y])) D = some (.lst acc') ∧ acc'.length = i + 1 ∧ ∀ j y', acc'[j]? = some y' → Pa j (upd H4 D (.lst (acc ++ [y]))) y')) := by
        funext σ2 H2
        unfold tYes
        dsimp only []
        rw [if_pos rfl]
      rw [e1]
      exact hs'
    · intro y H4 s4 p4
      have e4 : H4 D = some (.lst acc) := s4 _ _ e0
      refine ⟨acc, e4, by omega, fun b o e => ?_, acc ++ [y], upd_same, by rw [List.length_append, l0] <;> rfl, fun j y' ej => ?_⟩
      · have : b ≠ D := ne_of_none e hD
        rw [upd_ne this]
        exact s4 _ _ (s0 _ _ e)
      · rcases Nat.lt_or_ge j acc.length with hj | hj
        · rw [List.getElem?_append_left hj] at ej
          exact stab _ _ _ _ ((same_t s4).trans (samet_lst e4)) (p0 j y' ej)
        · rw [List.getElem?_append_right hj] at ej
          have hj0 : j - acc.length = 0 := by
            rcases Nat.eq_zero_or_pos (j - acc.length) with z | z
            · exact z
            · rw [List.getElem?_eq_none (show [y].length ≤ j - acc.length from z)] at ej
              cases ej
          rw [hj0] at ej
          have ey : y = y' := by simpa using ej
          have ej2 : j = i := by omega
          rw [← ey, ej2]
          exact stab _ _ _ _ (samet_lst e4) p4
  · rintro H ⟨s0, acc, e0, l0, p0⟩
    exact hd H acc s0 e0 l0 p0
end Vx
namespace Vx
open PySem PySem.Spec PyProof.Rows L2
section
variable {X : Cx}
def rGetL (K : PySem.W.Frag) : V → V → Hp → VK → Prop := fun x y H Q => ∃ p xs i v, x = .ref p ∧ y = .int i ∧ SqL K H p xs ∧ 0 ≤ i ∧ xs[i.toNat]? = some v ∧ Q v H
theorem get_list : PGet X (rGetL X.K) := by
  intro pins s σ H x y v u Q I rx ry h
  obtain ⟨p, xs, i, z, rfl, rfl, hq, h0, he, q⟩ := h
  cases rx
  obtain ⟨t, rfl⟩ := ry
  obtain ⟨its, r, pl, hz⟩ := I.list hq
  obtain ⟨w, ew, rw'⟩ := r.get he
  have hl := r.length
  have hn := line63
  have hi := (List.getElem?_eq_some_iff.mp he).1
  have fin : EP X pins σ Q w s := ⟨z, H, I, rw', q⟩
  exact wpAny_getItem_list pl.isList h0 (by omega) (by simpa using ew) fin
/-- how the def's two parameters bind by the names k1, k2, in the other order -/
def Kw2 (fd : FuncData) (ps : List Str) (k1 k2 : Str) : Prop := ∀ (s : Shared) (u v : Value), BindsTo s fd ⟨[], [(k1, u), (k2, v)]⟩ (ps.zip [v, u])
structure Dk (P : Program) (w : World) (K : PySem.W.Frag) (mg : Str → Option Value) (base : Heap) (x : Str) (k : Nat) (ps : List Str) (k1 k2 : Str) (sp : Sp) : Prop where
  ex : ∃ f fd, FnOk P w K mg base CX0 k f fd ps sp ∧ mg x = some (.ref f) ∧ PySem.W.keepIn K (.ref f) = true ∧ Binds K fd ps [] ∧ Kw2 fd ps k1 k2
theorem Dk.df {P : Program} {w : World} {K : PySem.W.Frag} {mg : Str → Option Value} {base : Heap} {x : Str} {k : Nat} {ps : List Str} {k1 k2 : Str} {sp : Sp} (D : Dk P w K mg base x k ps k1 k2 sp) : Df P w K mg base x k ps sp := by
  obtain ⟨f, fd, F, a, b, c, _⟩ := D.ex
  exact ⟨f, fd, F, a, b, c⟩
def tKw2 (sp : Sp) (tk : TA) : TE := fun σ H Q => tk σ H fun zs H2 => ∃ a b, zs = [a, b] ∧ sp [b, a] H2 Q E0
variable {k : Nat} {ps : List Str} {sp : Sp} {x k1 k2 : Str} {p pos p1 p2 : Pos} {e1 e2 : Expr} {tk : TA}
theorem pe_kw2 (D : Dk X.prog X.w X.K X.mg X.base x k ps k1 k2 sp) (hr : Room k X.A) (hg : Gl X x) (hkw : PK X [⟨some k1, e1, p1⟩, ⟨some k2, e2, p2⟩] tk)
    (hdb : (x == ("__debug__" : Str)) = false := by decide)
    (hall : (backToKw pos (keywordEach [⟨some k1, e1, p1⟩, ⟨some k2, e2, p2⟩] X.env)).all (·.1.isSome) = true := by rfl)
    (hks : (backToKw pos (keywordEach [⟨some k1, e1, p1⟩, ⟨some k2, e2, p2⟩] X.env)).filterMap (·.1) = [k1, k2] := by rfl)
    (hpl : ((backTo pos (starEach [] X.env)).any (·.1) || (backToKw pos (keywordEach [⟨some k1, e1, p1⟩, ⟨some k2, e2, p2⟩] X.env)).any (·.1.isNone)) = false := by rfl) :
    PE X (.Call (.Name x p) [] [⟨some k1, e1, p1⟩, ⟨some k2, e2, p2⟩] pos) (tKw2 sp tk) := by
  obtain ⟨f, fd, F, hm, hk, _, hb⟩ := D.ex
  refine ⟨fun pins s σ H Q I h => ?_⟩
  refine wpAny_Call_Name_kw (ld_glob I hg hm ?_ hdb)
  refine PySem.W.callWith_KW0 (h₀ := X.base) I.ok.mod.kin hk hall ?_ hpl
  refine thn (hkw.run pos pins s σ H _ I h) fun ws s2 ⟨zs, H2, I2, rz, a, b, ez, q2⟩ => ⟨I2.kIn, ?_⟩
  subst ez
  rw [hks]
  obtain ⟨u, v, rfl, ra, rb⟩ := vals2 rz
  refine wpAny_call (codeAny_mono (F.run X.A X.stack s2 H2 ⟨[], [(k1, u), (k2, v)]⟩ [v, u] [b, a] Q E0 hr I2.env0 (hb s2 u v) (.cons rb (.cons ra .nil)) q2) fun r s' hq => ?_)
  cases r with
  | error e => exact pass0 pins σ H2 s2 e s' I2 hq
  | ok fl =>
    cases fl with
    | ret u => exact I2.after hq
    | next => exact False.elim hq
    | brk => exact False.elim hq
    | cont => exact False.elim hq
end
end Vx
namespace Vx
open PySem PySem.Spec PyProof.Rows L2
theorem cutV_take {xs : List V} {m : Nat} (h : m ≤ xs.length) : cutV xs none (some (m : Int)) = xs.take m := by
  unfold cutV
  rw [HT.sIx_none, HT.sIx_nat, Nat.min_eq_left h, List.drop_zero, Nat.sub_zero]
theorem eqv_fr (p q : Rat) : PyData.eqv (dFr p) (dFr q) = decide (p = q) := by
  unfold dFr
  simp only [PyData.eqv, PyData.eqvAll]
  by_cases h : p = q
  · subst h
    simp
  · rw [decide_eq_false h]
    by_cases h1 : p.num = q.num
    · have h2 : p.den ≠ q.den := fun z => h (Rat.ext h1 z)
      have h3 : ((p.den : Int) == (q.den : Int)) = false := beq_eq_false_iff_ne.mpr (by omega)
      rw [h3]
      simp
    · rw [beq_eq_false_iff_ne.mpr h1]
      simp
theorem shaped_fr (q : Rat) : SeqAt.shaped (dFr q) = true := by
  unfold dFr SeqAt.shaped
  simp [PyData.canLay0, PyData.depth, PyData.canLayAll0, PyData.depthAll]
theorem dp_fr {K : PySem.W.Frag} {H : Hp} {v : V} {q : Rat} (h : FrT K H v q) : Dp K H v (dFr q) := by
  obtain ⟨a, rfl, s⟩ := h
  exact .tup s (.cons (.int _) (.cons (.int _) .nil))
/-- what rEqD asks of two fractions -/
theorem rEqD_fr {K : PySem.W.Frag} {H : Hp} {x y : V} {p q : Rat} {Q : VK} (hx : FrT K H x p) (hy : FrT K H y q) (h : Q (.bl (decide (p = q))) H) : rEqD K x y H Q :=
  ⟨dFr p, dFr q, dp_fr hx, dp_fr hy, shaped_fr p, shaped_fr q, by rw [eqv_fr]; exact h⟩
theorem rNeD_fr {K : PySem.W.Frag} {H : Hp} {x y : V} {p q : Rat} {Q : VK} (hx : FrT K H x p) (hy : FrT K H y q) (h : Q (.bl (!decide (p = q))) H) : rNeD K x y H Q :=
  ⟨dFr p, dFr q, dp_fr hx, dp_fr hy, shaped_fr p, shaped_fr q, by rw [eqv_fr]; exact h⟩
theorem tr_take_of {qs : List Rat} {m : Nat} (h0 : 0 < m) (hm : m ≤ qs.length) (hne : qs[m - 1]'(by omega) ≠ 0) : Tr (qs.take m) := fun hn => by
  have e : (qs.take m).getLast hn = qs[m - 1]'(by omega) := by
    rw [List.getLast_eq_getElem]
    simp only [List.length_take, List.getElem_take, Nat.min_eq_left hm]
  rw [e]
  exact hne
theorem ev_take_drop (qs : List Rat) (m : Nat) (h : ∀ c ∈ qs.drop m, c = 0) (x : Rat) : ev (qs.take m) x = ev qs x := by
  have := ev_append (qs.take m) (qs.drop m) x
  rw [List.take_append_drop, ev_zeros h] at this
  grind
end Vx
namespace Vx
open PySem PySem.Spec PyProof.Rows L2
def Qs (b : Nat) (qs : List Rat) : Prop := ∀ c ∈ qs, Qz b c
theorem Qs.mono {b c : Nat} {qs : List Rat} (h : Qs b qs) (le : b ≤ c) : Qs c qs := fun x hx => (h x hx).mono le
theorem Qs.take {b : Nat} {qs : List Rat} (h : Qs b qs) (n : Nat) : Qs b (qs.take n) := fun c hc => h c (List.mem_of_mem_take hc)
theorem lcm_bz {D : Int} {d a b : Nat} (h0 : 0 < D) (h1 : Bz a D) (h2 : d < 2 ^ b) : Bz (a + b) ((Nat.lcm D.natAbs (d : Int).natAbs : Nat) : Int) := by
  unfold Bz at *
  rw [Int.natAbs_natCast, Int.natAbs_natCast, Nat.pow_add]
  have hl : Nat.lcm D.natAbs d ≤ D.natAbs * d := by
    unfold Nat.lcm
    exact Nat.div_le_self _ _
  exact Nat.lt_of_le_of_lt hl (Nat.mul_lt_mul'' h1 h2)
theorem lcm_pos' {D : Int} {d : Nat} (h0 : 0 < D) (h1 : d ≠ 0) : 0 < ((Nat.lcm D.natAbs (d : Int).natAbs : Nat) : Int) := by
  rw [Int.natAbs_natCast]
  have := Nat.lcm_pos (show 0 < D.natAbs by omega) (show 0 < d by omega)
  omega
theorem lcm_left {D : Int} {d : Nat} {x : Int} (h : x ∣ D) : x ∣ ((Nat.lcm D.natAbs (d : Int).natAbs : Nat) : Int) := by
  refine Int.dvd_trans h ?_
  have : D.natAbs ∣ Nat.lcm D.natAbs (d : Int).natAbs := Nat.dvd_lcm_left _ _
  exact Int.natAbs_dvd_natAbs.mp (by rw [Int.natAbs_natCast]; exact this)
theorem lcm_right {D : Int} {d : Nat} : (d : Int) ∣ ((Nat.lcm D.natAbs (d : Int).natAbs : Nat) : Int) := by
  have : d ∣ Nat.lcm D.natAbs (d : Int).natAbs := by
    rw [Int.natAbs_natCast]
    exact Nat.dvd_lcm_right _ _
  exact Int.natAbs_dvd_natAbs.mp (by rw [Int.natAbs_natCast, Int.natAbs_natCast]; exact this)
/-- num * (D // den) is D times the fraction -/
theorem clear_eq {q : Rat} {D : Int} (h : (q.den : Int) ∣ D) : ((q.num * D.fdiv (q.den : Int) : Int) : Rat) = (D : Rat) * q := by
  obtain ⟨k, hk⟩ := h
  have hd : (q.den : Int) ≠ 0 := by have := q.den_nz; omega
  have hdr : ((q.den : Int) : Rat) ≠ 0 := by exact_mod_cast hd
  rw [hk, Int.mul_fdiv_cancel_left _ hd]
  have e : q = (q.num : Rat) / ((q.den : Int) : Rat) := by
    rw [← Rat.divInt_eq_div]
    exact (fr_self q).symm
  have key : ∀ (q n d k : Rat), d ≠ 0 → q = n / d → n * k = d * k * q := by
    intro q n d k h1 h2
    grind
  have := key q _ _ (k : Rat) hdr e
  push_cast at this ⊢
  exact this
theorem clear_bz {q : Rat} {D : Int} {a b : Nat} (h0 : 0 < D) (h1 : Bz a D) (h2 : Qz b q) : Bz (b + a) (q.num * D.fdiv (q.den : Int)) := by
  refine Bz.mul h2.n ?_
  unfold Bz at *
  rw [Int.fdiv_eq_ediv_of_nonneg _ (by omega)]
  refine Nat.lt_of_le_of_lt ?_ h1
  exact Int.natAbs_ediv_le_natAbs _ _
end Vx
namespace Vx
open PySem PySem.Spec PyProof.Rows L2
/-- the targets x, y of a comprehension -/
theorem pg_pair {X : Cx} {K : PySem.W.Frag} {i j : Nat} {x y : Str} {p q pos : Pos} {k : Nat} (hK : X.K = K) (hc : X.calm = true) (hN : X.N.Nodup) (hi : X.N[i]? = some x) (hj : X.N[j]? = some y)
    (hx : X.env.scope.names.lookup x = some .local) (hy : X.env.scope.names.lookup y = some .local) : PG X (.Tuple [.Name x p, .Name y q] k pos) (gTup K 2 (gCons (gName i) (gCons (gName j) gNil))) := by
  subst hK
  exact pg_tup hc (pgs_cons (pg_name hN hi (Or.inl hx) (Or.inr hx)) (pgs_cons (pg_name hN hj (Or.inl hy) (Or.inr hy)) pgs_nil))
/-- x[i], x a tuple, within a comprehension -/
theorem pe_ixTK {X : Cx} {K : PySem.W.Frag} {a i : Expr} {ta ti : TE} {pos : Pos} (hK : X.K = K) (h : PE X (.Subscript a i pos) (tOp (rIxT X.K) ta ti)) : PE X (.Subscript a i pos) (tOp (rIxT K) ta ti) := by
  subst hK
  exact h
end Vx
namespace Vx
open PySem PySem.Spec PyProof.Rows L2
theorem walk_zipT {K : PySem.W.Frag} {a b : Addr} {xs ys : List V} {n : Nat} (hn : n = min xs.length ys.length) : Walk (RZ.ItzT K a b) n (fun H => SqT K H a xs ∧ SqT K H b ys) (YPair (fun i => xs[i]?) (fun i => ys[i]?)) := by
  subst hn
  refine ⟨fun i _ hi q => ?_, fun _ q => ⟨xs, ys, q.1, q.2, by omega⟩, fun i H v H' _ q y => ?_⟩
  · have h1 : i < xs.length := by omega
    have h2 : i < ys.length := by omega
    exact ⟨xs, ys, xs[i], ys[i], q.1, q.2, by simp [h1], by simp [h2]⟩
  · obtain ⟨T, x, z, h1, h2, h3, h4, h5⟩ := y
    exact ⟨T, x, z, h1, h2, h3, h4 xs q.1, h5 ys q.2⟩
theorem walk_revT {K : PySem.W.Frag} {a : Addr} {xs : List V} : Walk (RT.ItvT K a xs.length) xs.length (fun H => SqT K H a xs) (fun i H x H' => H' = H ∧ xs[xs.length - 1 - i]? = some x) :=
  ⟨fun i _ hi q => ⟨hi, xs, xs[xs.length - 1 - i]'(by omega), q, by simp [show xs.length - 1 - i < xs.length by omega]⟩, fun _ _ => Nat.le_refl _, fun _ _ _ _ _ q y => ⟨y.1, y.2 xs q⟩⟩
def toR (ns : List Int) : List Rat := ns.map fun (n : Int) => (n : Rat)
theorem ev_toR_div (ns : List Int) {m : Int} (hm : m ≠ 0) (x : Rat) : ev (ns.map fun n => Rat.divInt n m) x = ev (toR ns) x / (m : Rat) := by
  have hr : (m : Rat) ≠ 0 := by exact_mod_cast hm
  induction ns with
  | nil =>
    show (0 : Rat) = 0 / (m : Rat)
    grind
  | cons n ns ih =>
    show Rat.divInt n m + x * ev (ns.map fun n => Rat.divInt n m) x = ((n : Rat) + x * ev (toR ns) x) / (m : Rat)
    rw [ih, Rat.divInt_eq_div]
    grind
theorem al_of_get {R : V → Rat → Prop} {n : Nat} {acc : List V} {f : Nat → Rat} (hl : acc.length = n) (h : ∀ i y, acc[i]? = some y → R y (f i)) : Al R acc ((List.range n).map f) := by
  refine Al.of (by rw [List.length_map, List.length_range, hl]) fun i v q h1 h2 => ?_
  have hi : i < n := by
    have := (List.getElem?_eq_some_iff.mp h1).1
    omega
  rw [List.getElem?_map, List.getElem?_range hi] at h2
  cases h2
  exact h i v h1
theorem map_range_getD {α : Type} (l : List α) (d : α) : (List.range l.length).map (fun i => l.getD i d) = l := by
  refine List.ext_getElem? fun i => ?_
  by_cases hi : i < l.length
  · rw [List.getElem?_map, List.getElem?_range hi, List.getElem?_eq_getElem hi]
    show some (l.getD i d) = _
    rw [List.getD_eq_getElem?_getD, List.getElem?_eq_getElem hi]
    rfl
  · rw [List.getElem?_eq_none (by simp only [List.length_map, List.length_range]; omega), List.getElem?_eq_none (by omega)]
end Vx
namespace Vx
open PySem PySem.Spec PyProof.Rows L2
theorem toR_take_succ {ns : List Int} {i : Nat} {n : Int} (h : ns[i]? = some n) (x : Rat) : ev (toR (ns.take (i + 1))) x = ev (toR (ns.take i)) x + (n : Rat) * x ^ i := by
  have hi := (List.getElem?_eq_some_iff.mp h).1
  rw [List.take_add_one, h]
  unfold toR
  rw [List.map_append, ev_append]
  have e : ((ns.take i).map fun (n : Int) => (n : Rat)).length = i := by rw [List.length_map, List.length_take]; omega
  rw [e]
  show _ + x ^ i * ((n : Rat) + x * 0) = _
  grind
theorem toR_set {ns : List Int} {k : Nat} (h : k < ns.length) (v : Int) (x : Rat) : ev (toR (ns.set k (ns[k] + v))) x = ev (toR ns) x + (v : Rat) * x ^ k := by
  unfold toR
  rw [List.map_set]
  have h2 : k < (ns.map fun (n : Int) => (n : Rat)).length := by rw [List.length_map]; exact h
  have := ev_set h2 (v : Rat) x
  rw [List.getElem_map] at this
  rw [← this]
  push_cast
  rfl
theorem toR_rep (n : Nat) (x : Rat) : ev (toR (List.replicate n 0)) x = 0 := by
  unfold toR
  rw [List.map_replicate]
  exact ev_replicate0 n x
theorem mul_le_pow {c n e : Nat} (h : c ≤ n * 2 ^ e) (hn : n < 1000) : c < 2 ^ (e + 10) := by
  have p := Nat.two_pow_pos e
  rw [Nat.pow_add]
  have h1 : n * 2 ^ e ≤ 999 * 2 ^ e := Nat.mul_le_mul_right _ (by omega)
  have h2 : 999 * 2 ^ e < 2 ^ e * 2 ^ 10 := by
    rw [Nat.mul_comm (2 ^ e)]
    exact Nat.mul_lt_mul_of_pos_right (by decide) p
  omega
end Vx
namespace Vx
open PySem PySem.Spec PyProof.Rows L2
theorem canLay_rw (qs : List Rat) : PyData.canLayAll0 (qs.map dFr) = true := by
  induction qs with
  | nil => rfl
  | cons q qs ih =>
    show (PyData.canLay0 (dFr q) && PyData.canLayAll0 (qs.map dFr)) = true
    rw [ih]
    unfold dFr
    simp [PyData.canLay0, PyData.canLayAll0]
theorem depth_rw (qs : List Rat) : PyData.depthAll (qs.map dFr) ≤ 2 := by
  induction qs with
  | nil => simp [PyData.depthAll]
  | cons q qs ih =>
    simp only [List.map_cons, PyData.depthAll]
    have : (dFr q).depth ≤ 2 := by unfold dFr; simp [PyData.depth, PyData.depthAll]
    omega
theorem shaped_rw (qs : List Rat) : SeqAt.shaped (dRw qs) = true := by
  unfold dRw SeqAt.shaped
  have h1 := canLay_rw qs
  have h2 := depth_rw qs
  rw [Bool.and_eq_true]
  refine ⟨by simpa [PyData.canLay0] using h1, decide_eq_true ?_⟩
  simp only [PyData.depth]
  omega
theorem eqv_rw : ∀ (ps qs : List Rat), PyData.eqvAll (ps.map dFr) (qs.map dFr) = decide (ps = qs)
  | [], [] => rfl
  | [], _ :: _ => by simp [PyData.eqvAll]
  | _ :: _, [] => by simp [PyData.eqvAll]
  | p :: ps, q :: qs => by
    rw [List.map_cons, List.map_cons]
    show (PyData.eqv (dFr p) (dFr q) && PyData.eqvAll (ps.map dFr) (qs.map dFr)) = _
    rw [eqv_fr, eqv_rw ps qs]
    by_cases h1 : p = q
    · by_cases h2 : ps = qs
      · simp [h1, h2]
      · simp [h2]
    · simp [h1]
theorem dp_rwA {K : PySem.W.Frag} {H : Hp} : ∀ {vs : List V} {qs : List Rat}, FrA K H vs qs → DpAll K H vs (qs.map dFr)
  | _, _, .nil => .nil
  | _, _, .cons h t => .cons (dp_fr h) (dp_rwA t)
theorem dp_rw {K : PySem.W.Frag} {H : Hp} {v : V} {qs : List Rat} (h : RwT K H v qs) : Dp K H v (dRw qs) := by
  obtain ⟨a, vs, rfl, s, f⟩ := h
  exact .tup s (dp_rwA f)
theorem rEqD_rw {K : PySem.W.Frag} {H : Hp} {x y : V} {ps qs : List Rat} {Q : VK} (hx : RwT K H x ps) (hy : RwT K H y qs) (h : Q (.bl (decide (ps = qs))) H) : rEqD K x y H Q :=
  ⟨dRw ps, dRw qs, dp_rw hx, dp_rw hy, shaped_rw ps, shaped_rw qs, by
    show Q (.bl (PyData.eqv (.tuple (ps.map dFr)) (.tuple (qs.map dFr)))) H
    rw [show PyData.eqv (.tuple (ps.map dFr)) (.tuple (qs.map dFr)) = PyData.eqvAll (ps.map dFr) (qs.map dFr) from rfl, eqv_rw]
    exact h⟩
theorem rNeD_rw {K : PySem.W.Frag} {H : Hp} {x y : V} {ps qs : List Rat} {Q : VK} (hx : RwT K H x ps) (hy : RwT K H y qs) (h : Q (.bl (!decide (ps = qs))) H) : rNeD K x y H Q :=
  ⟨dRw ps, dRw qs, dp_rw hx, dp_rw hy, shaped_rw ps, shaped_rw qs, by
    show Q (.bl (!PyData.eqv (.tuple (ps.map dFr)) (.tuple (qs.map dFr)))) H
    rw [show PyData.eqv (.tuple (ps.map dFr)) (.tuple (qs.map dFr)) = PyData.eqvAll (ps.map dFr) (qs.map dFr) from rfl, eqv_rw]
    exact h⟩
theorem rwt_nil {K : PySem.W.Frag} {H : Hp} {p : Addr} (h : SqT K H p []) : RwT K H (.ref p) [] := ⟨p, [], rfl, h, .nil⟩
end Vx
namespace Vx
open PySem PySem.Spec PyProof.Rows L2
theorem tifn {c : Prop} [Decidable c] {A B : Prop} (h1 : ¬ c → A) (h2 : c → B) : if (!decide c) = true then A else B := by
  by_cases h : c
  · rw [decide_eq_true h]
    exact h2 h
  · rw [decide_eq_false h]
    exact h1 h
end Vx
namespace Vx
open PySem PySem.Spec PyProof.Rows L2
theorem but_samet {a : Addr} {H H' : Hp} (h : RlAt a H) (b : But a H H') : SameT H H' := fun c o e n => by
  obtain ⟨x, y, z, ea⟩ := h
  refine b c o e fun q => ?_
  rw [q, ea] at e
  cases e
  exact n _ rfl
theorem same_rl {a : Addr} {H H' : Hp} (h : RlAt a H) (s : Same H H') : RlAt a H' := by
  obtain ⟨x, y, z, e⟩ := h
  exact ⟨x, y, z, s _ _ e⟩
theorem getD_pad (l : List Rat) (n i : Nat) : (l ++ List.replicate n 0).getD i 0 = l.getD i 0 := by
  rw [List.getD_eq_getElem?_getD, List.getD_eq_getElem?_getD]
  by_cases h : i < l.length
  · rw [List.getElem?_append_left h]
  · rw [List.getElem?_append_right (by omega), List.getElem?_eq_none (show l.length ≤ i by omega), List.getElem?_replicate]
    split <;> rfl
theorem getD_mem_or {l : List Rat} (i : Nat) : l.getD i 0 ∈ l ∨ l.getD i 0 = 0 := by
  rw [List.getD_eq_getElem?_getD]
  by_cases h : i < l.length
  · left
    rw [List.getElem?_eq_getElem h]
    exact List.getElem_mem h
  · right
    rw [List.getElem?_eq_none (by omega)]
    rfl
theorem qs_getD {b : Nat} {l : List Rat} (h : Qs b l) (hb : 0 < b) (i : Nat) : Qz b (l.getD i 0) := by
  rcases getD_mem_or (l := l) i with z | z
  · exact h _ z
  · rw [z]
    exact qz0 hb
theorem Al.set {R : V → Rat → Prop} {vs : List V} {qs : List Rat} (h : Al R vs qs) (k : Nat) {v : V} {q : Rat} (r : R v q) : Al R (vs.set k v) (qs.set k q) := by
  induction h generalizing k with
  | nil => exact .nil
  | cons h t ih =>
    cases k with
    | zero => exact .cons r t
    | succ k => exact .cons h (ih k)
theorem ixN_nat {n i : Nat} (h : i < n) : ixN n (i : Int) = some i := by
  unfold ixN
  rw [if_pos (by omega)]
  show (if _ then _ else _) = _
  rw [if_pos (by omega)]
  exact congrArg some (by omega)
theorem rw_take_succ {qs : List Rat} {i : Nat} {q : Rat} (h : qs[i]? = some q) (x : Rat) : ev (qs.take (i + 1)) x = ev (qs.take i) x + q * x ^ i := by
  have hi := (List.getElem?_eq_some_iff.mp h).1
  rw [List.take_add_one, h, ev_append]
  have e : (qs.take i).length = i := by rw [List.length_take]; omega
  rw [e]
  show _ + x ^ i * (q + x * 0) = _
  grind
end Vx
namespace Vx
open PySem PySem.Spec PyProof.Rows L2
theorem rSlA_take {K : PySem.W.Frag} {H : Hp} {x : V} {qs : List Rat} {m : Nat} {Q : VK} (h : RwT K H x qs) (hm : m ≤ qs.length) (q : ∀ v H', Same H H' → RwT K H' v (qs.take m) → Q v H') : rSlA K x none (some (m : Int)) H Q := by
  obtain ⟨a, us, rfl, ha, hA⟩ := h
  have hL := hA.length
  refine ⟨a, us, rfl, ha, fun hw => ?_, fun hw p hp => ?_⟩
  · have h2 := hw.2
    rw [HT.sIx_nat, Nat.min_eq_left (by omega)] at h2
    rw [List.take_of_length_le (show qs.length ≤ m by omega)] at q
    exact q _ H (Same.refl _) ⟨a, us, rfl, ha, hA⟩
  · rw [cutV_take (by omega)]
    exact q _ _ (same_new hp) ⟨p, us.take m, rfl, SqT.of upd_same, fra_mono (same_t (same_new hp)) (hA.take m)⟩
theorem rSlA_drop {K : PySem.W.Frag} {H : Hp} {x : V} {qs : List Rat} {m : Nat} {Q : VK} (h : RwT K H x qs) (hm : m ≤ qs.length) (q : ∀ v H', Same H H' → RwT K H' v (qs.drop m) → Q v H') : rSlA K x (some (m : Int)) none H Q := by
  obtain ⟨a, us, rfl, ha, hA⟩ := h
  have hL := hA.length
  refine ⟨a, us, rfl, ha, fun hw => ?_, fun hw p hp => ?_⟩
  · have h2 := hw.1
    rw [HT.sIx_nat, Nat.min_eq_left (by omega)] at h2
    subst h2
    exact q _ H (Same.refl _) ⟨a, us, rfl, ha, hA⟩
  · have e : cutV us (some (m : Int)) none = us.drop m := by
      unfold cutV
      rw [HT.sIx_none, HT.sIx_nat, Nat.min_eq_left (by omega), List.take_of_length_le (by rw [List.length_drop]; exact Nat.le_refl _)]
    rw [e]
    exact q _ _ (same_new hp) ⟨p, us.drop m, rfl, SqT.of upd_same, fra_mono (same_t (same_new hp)) (hA.drop m)⟩
theorem rCatA_rw {K : PySem.W.Frag} {H : Hp} {x y : V} {ps qs : List Rat} {Q : VK} (hx : RwT K H x ps) (hy : RwT K H y qs) (hz : ps.length + qs.length ≤ 10000) (q : ∀ v H', Same H H' → RwT K H' v (ps ++ qs) → Q v H') : rCatA K x y H Q := by
  obtain ⟨a, us, rfl, ha, hA⟩ := hx
  obtain ⟨b, vs, rfl, hb, hB⟩ := hy
  have hL := hA.length
  have hM := hB.length
  refine ⟨a, b, us, vs, rfl, rfl, ha, hb, by rw [sizeLine_eq]; omega, fun e => ?_, fun e1' e2 => ?_, fun e1' e2 p hp => ?_⟩
  · rw [e] at hL
    have e3 : ps = [] := List.eq_nil_of_length_eq_zero hL.symm
    rw [e3] at q
    exact q _ _ (Same.refl _) ⟨b, vs, rfl, hb, hB⟩
  · rw [e2] at hM
    have e3 : qs = [] := List.eq_nil_of_length_eq_zero hM.symm
    rw [e3, List.append_nil] at q
    exact q _ _ (Same.refl _) ⟨a, us, rfl, ha, hA⟩
  · exact q _ _ (same_new hp) ⟨p, us ++ vs, rfl, SqT.of upd_same, (fra_mono (same_t (same_new hp)) hA).append (fra_mono (same_t (same_new hp)) hB)⟩
theorem Al.one {R : V → Rat → Prop} {v : V} {q : Rat} (h : R v q) : Al R [v] [q] := .cons h .nil
end Vx
namespace Vx
open PySem PySem.Spec PyProof.Rows L2
theorem showA_rw : ∀ (qs : List Rat), Qs 1900 qs → PyData.showableAll (qs.map dFr) = true
  | [], _ => rfl
  | q :: qs, h => by
    have hq := h q List.mem_cons_self
    have ih := showA_rw qs fun c hc => h c (List.mem_cons_of_mem _ hc)
    have l1 : q.num.natAbs.log2 < 1920 := Nat.lt_of_lt_of_le (log_lt (by decide) hq.1) (by decide)
    have l2 : q.den.log2 < 1920 := Nat.lt_of_lt_of_le (log_lt (by decide) hq.2) (by decide)
    rw [List.map_cons]
    simp only [PyData.showableAll, ih, Bool.and_true]
    unfold dFr
    simp [PyData.showable, PyData.showableAll, l1, l2]
theorem costs_fr : ∀ (qs : List Rat), costs (qs.map dFr) = 3853 * qs.length
  | [] => rfl
  | q :: qs => by
    rw [List.map_cons]
    show cost (dFr q) + 2 + costs (qs.map dFr) = _
    rw [costs_fr qs, List.length_cons]
    show 3851 + 2 + _ = _
    omega
theorem okd_frs {qs : List Rat} (h : Qs 1900 qs) (hl : qs.length ≤ 1000) : Okd (.list (qs.map dFr)) := by
  refine ⟨by simpa [PyData.showable] using showA_rw qs h, ?_, ?_⟩
  · have := depth_rw qs
    simp only [PyData.depth]
    omega
  · show costs (qs.map dFr) + 2 ≤ _
    rw [costs_fr]
    omega
def RwOk (r : List Rat) : Prop := Qs 1900 r ∧ r.length ≤ 60
theorem okd_rws {rs : List (List Rat)} (h : ∀ r ∈ rs, RwOk r) (hl : rs.length ≤ 20) : Okd (.list (rs.map dRw)) := by
  have h1 : ∀ rs : List (List Rat), (∀ r ∈ rs, RwOk r) → PyData.showableAll (rs.map dRw) = true := by
    intro rs
    induction rs with
    | nil => intro _; rfl
    | cons r rs ih =>
      intro h
      rw [List.map_cons]
      simp only [PyData.showableAll, ih fun c hc => h c (List.mem_cons_of_mem _ hc), Bool.and_true]
      unfold dRw
      simpa [PyData.showable] using showA_rw r (h r List.mem_cons_self).1
  have h2 : ∀ rs : List (List Rat), (∀ r ∈ rs, RwOk r) → costs (rs.map dRw) ≤ 231200 * rs.length := by
    intro rs
    induction rs with
    | nil => intro _; exact Nat.zero_le _
    | cons r rs ih =>
      intro h
      rw [List.map_cons, List.length_cons]
      show cost (dRw r) + 2 + costs (rs.map dRw) ≤ _
      have i1 := ih fun c hc => h c (List.mem_cons_of_mem _ hc)
      have i2 : cost (dRw r) = 3853 * r.length + 3 := by
        show costs (r.map dFr) + 3 = _
        rw [costs_fr]
      have i3 := (h r List.mem_cons_self).2
      omega
  have h3 : ∀ rs : List (List Rat), PyData.depthAll (rs.map dRw) ≤ 3 := by
    intro rs
    induction rs with
    | nil => simp [PyData.depthAll]
    | cons r rs ih =>
      simp only [List.map_cons, PyData.depthAll]
      have : (dRw r).depth ≤ 3 := by
        have := depth_rw r
        unfold dRw
        simp only [PyData.depth]
        omega
      omega
  refine ⟨by simpa [PyData.showable] using h1 rs h, ?_, ?_⟩
  · have := h3 rs
    simp only [PyData.depth]
    omega
  · show costs (rs.map dRw) + 2 ≤ _
    have := h2 rs h
    omega
theorem fold_le {l n a : Nat} (h : l ≤ n) : l * a ≤ n * a := Nat.mul_le_mul_right a h
end Vx
namespace Vx
open PySem PySem.Spec PyProof.Rows L2
theorem tab_mono {H H' : Hp} {tb : Addr} (e : SameT H H') (h : H tb = some (tabX tb)) : H' tb = some (tabX tb) := e _ _ h fun xs z => by
  unfold tabX at z
  cases z
theorem ne_str_same {A B : Prop} {x : Str} (h : B) : if (!decide (V.str x = V.str x)) = true then A else B := by
  rw [decide_eq_true rfl]
  exact h
end Vx
namespace Vx
open PySem PySem.Spec PyProof.Rows L2
section
variable {X : Cx}
def ipMulX : TIp := fun x y H Q => ∃ i j, x = .int i ∧ y = .int j ∧ CMulX i j ∧ Q (.int (i * j)) H
theorem ip_mulX : PIp X .Mult ipMulX := by
  intro pins s σ H x y v u Q I r1 r2 h
  obtain ⟨i, j, e1, e2, c, q⟩ := h
  subst e1; subst e2
  obtain ⟨t, rfl⟩ := r1
  obtain ⟨t', rfl⟩ := r2
  exact imul_int ⟨.int _, H, I.tok _, ⟨_, rfl⟩, q⟩ c.ok
end
/-! ### products of rows, as rows -/
def pmul : List Rat → List Rat → List Rat
  | [], _ => []
  | [x], b => b.map (x * ·)
  | x :: y :: a, b => ladd (b.map (x * ·)) (0 :: pmul (y :: a) b)
theorem ev_pmul : ∀ (a b : List Rat) (z : Rat), ev (pmul a b) z = ev a z * ev b z
  | [], b, z => by
    show (0 : Rat) = 0 * ev b z
    grind
  | [x], b, z => by
    show ev (b.map (x * ·)) z = (x + z * 0) * ev b z
    rw [ev_scale]
    grind
  | x :: y :: a, b, z => by
    show ev (ladd (b.map (x * ·)) (0 :: pmul (y :: a) b)) z = (x + z * ev (y :: a) z) * ev b z
    rw [ev_ladd, ev_scale]
    show x * ev b z + (0 + z * ev (pmul (y :: a) b) z) = _
    rw [ev_pmul (y :: a) b z]
    grind
theorem ladd_length : ∀ (a b : List Rat), (ladd a b).length = max a.length b.length
  | [], b => by show b.length = max 0 b.length; omega
  | c :: a, [] => by show (c :: a).length = max (c :: a).length 0; omega
  | c :: a, d :: b => by
    show (ladd a b).length + 1 = max (a.length + 1) (b.length + 1)
    rw [ladd_length a b]
    omega
theorem ladd_last : ∀ (a b : List Rat) (hb : b ≠ []) (h : a.length < b.length) (hn : ladd a b ≠ []), (ladd a b).getLast hn = b.getLast hb
  | [], b, hb, h, hn => rfl
  | c :: a, [], hb, h, hn => absurd rfl hb
  | c :: a, [d], hb, h, hn => absurd h (by simp)
  | c :: a, d :: e :: b, hb, h, hn => by
    have h1 : a.length < (e :: b).length := by simpa using h
    have hn1 : ladd a (e :: b) ≠ [] := fun z => by
      have := congrArg List.length z
      rw [ladd_length, List.length_nil] at this
      simp at this
    show (((c + d) :: ladd a (e :: b)).getLast _) = _
    rw [List.getLast_cons hn1, List.getLast_cons (List.cons_ne_nil e b)]
    exact ladd_last a (e :: b) (List.cons_ne_nil _ _) h1 hn1
theorem pmul_shape : ∀ (a b : List Rat) (ha : a ≠ []) (hb : b ≠ []), (pmul a b).length + 1 = a.length + b.length ∧ ∀ hn : pmul a b ≠ [], (pmul a b).getLast hn = a.getLast ha * b.getLast hb
  | [], b, ha, hb => absurd rfl ha
  | [x], b, ha, hb => by
    refine ⟨?_, fun hn => ?_⟩
    · show (b.map (x * ·)).length + 1 = 1 + b.length
      rw [List.length_map]
      omega
    · have e : ∀ (hm : b.map (x * ·) ≠ []), (b.map (x * ·)).getLast hm = x * b.getLast hb := fun hm => by rw [List.getLast_map]
      exact e hn
  | x :: y :: a, b, ha, hb => by
    obtain ⟨l, g⟩ := pmul_shape (y :: a) b (List.cons_ne_nil _ _) hb
    have lb : 0 < b.length := List.length_pos_iff.mpr hb
    have hp : 0 < (pmul (y :: a) b).length := by
      have : (y :: a).length = a.length + 1 := rfl
      omega
    have hpn : pmul (y :: a) b ≠ [] := List.length_pos_iff.mp hp
    refine ⟨?_, fun hn => ?_⟩
    · show (ladd (b.map (x * ·)) (0 :: pmul (y :: a) b)).length + 1 = _
      have e1 := ladd_length (b.map (x * ·)) (0 :: pmul (y :: a) b)
      rw [List.length_map, List.length_cons] at e1
      have e2 : (x :: y :: a).length = a.length + 1 + 1 := rfl
      have e3 : (y :: a).length = a.length + 1 := rfl
      omega
    · have h1 : (b.map (x * ·)).length < (0 :: pmul (y :: a) b).length := by
        rw [List.length_map, List.length_cons]
        have : (y :: a).length = a.length + 1 := rfl
        omega
      have := ladd_last (b.map (x * ·)) (0 :: pmul (y :: a) b) (List.cons_ne_nil _ _) h1 hn
      show (ladd (b.map (x * ·)) (0 :: pmul (y :: a) b)).getLast hn = _
      rw [this, List.getLast_cons hpn, g hpn, List.getLast_cons (List.cons_ne_nil y a)]
theorem tr_pmul {a b : List Rat} (ha : Tr a) (hb : Tr b) (hna : a ≠ []) (hnb : b ≠ []) : Tr (pmul a b) := fun hn => by
  rw [(pmul_shape a b hna hnb).2 hn]
  have h1 := ha hna
  have h2 := hb hnb
  grind
/-- a row of fewer numbers is no product with a row, but nought -/
theorem no_small {a b s : List Rat} (ha : Tr a) (hb : Tr b) (hnb : b ≠ []) (hs : Tr s) (hl : s.length < b.length) (h : ∀ z, ev a z * ev b z = ev s z) : a = [] := by
  refine Classical.byContradiction fun hna => ?_
  have e : pmul a b = s := ev_inj (tr_pmul ha hb hna hnb) hs fun z => by rw [ev_pmul, h]
  have l := (pmul_shape a b hna hnb).1
  rw [e] at l
  have : 0 < a.length := List.length_pos_iff.mpr hna
  omega
/-- the row of any numbers -/
theorem trim_ex (l : List Rat) : ∃ t : List Rat, Tr t ∧ t.length ≤ l.length ∧ ∀ z, ev t z = ev l z := by
  induction l with
  | nil => exact ⟨[], tr_nil, Nat.le_refl _, fun _ => rfl⟩
  | cons c l ih =>
    obtain ⟨t, h1, h2, h3⟩ := ih
    by_cases ht : t = []
    · subst ht
      by_cases hc : c = 0
      · refine ⟨[], tr_nil, Nat.zero_le _, fun z => ?_⟩
        show (0 : Rat) = c + z * ev l z
        rw [← h3, hc]
        show (0 : Rat) = 0 + z * 0
        grind
      · refine ⟨[c], fun _ => hc, by simp, fun z => ?_⟩
        show c + z * 0 = c + z * ev l z
        rw [← h3]
        rfl
    · refine ⟨c :: t, fun hn => ?_, by simpa using h2, fun z => ?_⟩
      · rw [List.getLast_cons ht]
        exact h1 ht
      · show c + z * ev t z = c + z * ev l z
        rw [h3]
/-- quotient and rest are the only ones -/
theorem div_unique {d q r q' r' : List Rat} (hd : Tr d) (hnd : d ≠ []) (hq : Tr q) (hq' : Tr q') (hr : Tr r) (hr' : Tr r') (hl : r.length < d.length) (hl' : r'.length < d.length)
    (h : ∀ z, ev q z * ev d z + ev r z = ev q' z * ev d z + ev r' z) : q = q' ∧ r = r' := by
  obtain ⟨a, a1, _, a3⟩ := trim_ex (ladd q (q'.map ((-1 : Rat) * ·)))
  obtain ⟨s, s1, s2, s3⟩ := trim_ex (ladd r' (r.map ((-1 : Rat) * ·)))
  have la : s.length < d.length := by
    rw [ladd_length, List.length_map] at s2
    omega
  have e := no_small a1 hd hnd s1 la fun z => by
    rw [a3, s3, ev_ladd, ev_ladd, ev_scale, ev_scale]
    have := h z
    grind
  subst e
  have hqq : q = q' := ev_inj hq hq' fun z => by
    have := a3 z
    rw [ev_ladd, ev_scale] at this
    have z0 : ev [] z = 0 := rfl
    rw [z0] at this
    grind
  refine ⟨hqq, ev_inj hr hr' fun z => ?_⟩
  have := h z
  rw [hqq] at this
  grind
end Vx
-- pyl
set_option Elab.async false
set_option linter.all false
set_option maxRecDepth 100000
set_option maxHeartbeats 4000000
namespace Vx
open PySem PySem.Spec PyProof.Rows L2
local macro_rules | `(tactic| walk_at "cl") => `(tactic| first | rfl | assumption | omega | exact sz_of 0 rfl (by decide) | exact sz_of 1 rfl (by decide) | exact sz_of 2 rfl (by decide) | exact sz_of 3 rfl (by decide) | exact cmulx (by assumption) (by assumption) (by decide) | exact Bz.mono (Bz.mul (by assumption) (by assumption)) (by decide) | decide)
local macro_rules | `(tactic| walk_at "ex") => `(tactic| ((show Exists _); first | apply @Exists.intro V | apply @Exists.intro Int | apply @Exists.intro Addr | apply @Exists.intro (List V) | apply @Exists.intro Nat | apply @Exists.intro Str | apply @Exists.intro Bool | apply @Exists.intro (Option V) | apply @Exists.intro String | apply @Exists.intro Rat | apply @Exists.intro (List Rat)))
local macro_rules | `(tactic| walk_at "rd") => `(tactic| ((repeat (first | (walk_at "ex") | (apply And.intro; (focus (walk_at "cl"))))); (try dsimp only [])))
local macro_rules | `(tactic| walk_at "r0") => `(tactic| (repeat (first | (walk_at "ex") | (apply And.intro; (focus (walk_at "cl"))))))

/-- the built-in names -/
structure Blt (mg : Str → Option Value) : Prop extends Bls mg where
  n_type : mg "type" = none
  n_tuple : mg "tuple" = none
  n_list : mg "list" = none
  n_zip : mg "zip" = none
  n_enumerate : mg "enumerate" = none
  n_reversed : mg "reversed" = none
  g_gcd : mg "gcd" = some (.builtin "math.gcd")
section
variable {Pr : Program} {w : World} {K : PySem.W.Frag} {mg : Str → Option Value}
/-- is_whole of an int -/
theorem lw_whole {f : Addr} {fd : FuncData} (F : Fun K "is_whole" "is_whole" s_is_whole f fd) (T : Blt mg) {A : Around} {s : Shared} {args : Args} {i : Int} {t : Tok} (M : L2.Mod K mg s.heap) (hroom : A.depth < recursionLimit) (hbd : BindsTo s fd args [("value", .int i t)]) :
    codeAny (model Pr w) A (.call (.ref f) args) (fun r s' => r = .ok (.ret (.bool true)) ∧ Keeps s s') s := by
  obtain ⟨oc, od, kV, doc, pm, an, cdv, ct, osl, rfl, lk, hcd⟩ := F.ex
  refine Att.call_fn (binds := [("value", .int i t)]) M.kin M.nolimit lk hcd hroom hbd (by first | rfl | decide | with_unfolding_all rfl) (fun s₁ IC => ?_) rfl rfl rfl
  obtain ⟨h₁, tk₁, rfl⟩ := IC.toInCall.same
  have k : ∀ b o, s.heap.get? b = some o → h₁.get? b = some o := IC.toInCall.keep
  have hn := IC.toInCall.ns
  have M1 : L2.Mod K mg h₁ := mod_keeps M k
  show wpAny _ _ (execs _ _) _ _ _
  refine wpAny_execs_cons (wpAny_Return_some (wpAny_Compare1 (Call_Name1 (lw_blt M1.glob T.n_type M1.blt (v := .type "type") (by rfl) (callWith_type1 (lw_loc hn (v := .int i t) (by rfl) ?_)))  )))
  refine call_type_of (typeIs_int _ i t) (by decide +kernel) ?_
  refine lw_blt M1.glob T.n_int M1.blt (v := .type "int") (by rfl) ?_
  exact wpAny_is_self rfl ⟨rfl, ⟨_, _, rfl, k⟩⟩
end
section
variable {Pr : Program} {w : World} {K : PySem.W.Frag} {mg : Str → Option Value}
/-- is_fraction of a tuple of two ints -/
theorem lw_frac {f fw : Addr} {fd fdw : FuncData} (F : Fun K "is_fraction" "is_fraction" s_is_fraction f fd) (Fw : Fun K "is_whole" "is_whole" s_is_whole fw fdw) (hw : mg "is_whole" = some (.ref fw)) (T : Blt mg) {A : Around} {s : Shared} {args : Args} {a : Addr} {i j : Int} {t u : Tok}
    (M : L2.Mod K mg s.heap) (hT : s.heap.IsTuple a #[.int i t, .int j u]) (hh : A.handled = none) (hroom : A.depth + 1 < recursionLimit) (hbd : BindsTo s fd args [("value", .ref a)]) (bW : ∀ (s : Shared) (v : Value), K.In s.heap → BindsTo s fdw ⟨[v], []⟩ [("value", v)]) :
    codeAny (model Pr w) A (.call (.ref f) args) (fun r s' => r = .ok (.ret (.bool (decide (0 < j) && ((i.natAbs.gcd j.natAbs : Nat) : Int) == 1))) ∧ Keeps s s') s := by
  obtain ⟨oc, od, kV, doc, pm, an, cdv, ct, osl, rfl, lk, hcd⟩ := F.ex
  refine Att.call_fn (binds := [("value", .ref a)]) M.kin M.nolimit lk hcd (Nat.lt_of_succ_lt hroom) hbd (by first | rfl | decide | with_unfolding_all rfl) (fun s₁ IC => ?_) rfl rfl rfl
  obtain ⟨h₁, tk₁, rfl⟩ := IC.toInCall.same
  have k : ∀ b o, s.heap.get? b = some o → h₁.get? b = some o := IC.toInCall.keep
  have hn := IC.toInCall.ns
  have M1 : L2.Mod K mg h₁ := mod_keeps M k
  have hT1 : h₁.IsTuple a #[.int i t, .int j u] := by
    obtain ⟨o, e, r⟩ := hT
    exact ⟨o, k _ _ e, r⟩
  have hhd : (A.deeper (envOfC "is_fraction" (defScope s_is_fraction) s.heap.objs.size f cdv)).handled = none := hh
  have hrm : (A.deeper (envOfC "is_fraction" (defScope s_is_fraction) s.heap.objs.size f cdv)).depth < recursionLimit := hroom
  generalize hL : s.heap.objs.size = L at *
  have nL : ∀ b o, s.heap.get? b = some o → b ≠ L := fun b o e z => by
    have := Heap.lt_size e
    rw [hL, z] at this
    exact Nat.lt_irrefl _ this
  show wpAny _ _ (execs _ _) _ _ _
  refine wpAny_execs_cons (wpAny_If (isTrue_or (wpAny_isTrue_Compare1 (Call_Name1 (lw_blt M1.glob T.n_type M1.blt (v := .type "type") (by rfl) (callWith_type1 (lw_loc hn (v := .ref a) (by rfl) ?_)))))))
  refine call_type_of hT1.typeIs (by decide +kernel) ?_
  refine lw_blt M1.glob T.n_tuple M1.blt (v := .type "tuple") (by rfl) ?_
  refine wpAny_isNot_self rfl (wpAny_truthy_bool ?_)
  show wpAny _ _ _ _ _ _
  refine isTrue_or (wpAny_isTrue_Compare1 (Call_Name1 (lw_blt M1.glob T.n_len M1.blt (v := .builtin "len") (by rfl) (callWith_builtin1 (lw_loc hn (v := .ref a) (by rfl) ?_)))))
  refine PyProof.Rows.len_tuple hT1 (by show (2 : Int) < 2 ^ 63; decide) ?_
  refine wpAny_Constant_int (PySem.P.ne_int (wpAny_truthy_bool ?_))
  show wpAny _ _ _ _ _ _
  refine isTrue_or_nil ?_
  show wpAny _ _ _ _ _ _
  refine wpAny_execs_nil ?_
  show wpAny _ _ _ _ _ _
  -- number, under = value
  refine wpAny_execs_cons (Assign_Tuple (lw_loc hn (v := .ref a) (by rfl) (assign_Tuple_tuple hhd hT1 rfl rfl fun h₂ hx => ?_)))
  have k2 : ∀ b o, h₁.get? b = some o → h₂.get? b = some o := fun b o e => hx b o (Nat.ne_of_lt (Heap.lt_size e)) e
  have hn2 := hn.keeps k2
  show wpAny _ _ (do holding [Value.int j u] _; _) _ _ _
  refine wpAny_bind (wpAny_holding ?_)
  show wpAny _ _ (do standAt _; bindName _ _ _) _ _ _
  refine wpAny_bind (wpAny_standAt (wpAny_bindName (wpAny_storeName_local rfl hn2 fun h₃ hn3 sb3 => ?_)))
  show wpAny _ _ (do holding [] _; _) _ _ _
  refine wpAny_bind (wpAny_holding ?_)
  show wpAny _ _ (do standAt _; bindName _ _ _) _ _ _
  refine wpAny_bind (wpAny_standAt (wpAny_bindName (wpAny_storeName_local rfl hn3 fun h₄ hn4 sb4 => ?_)))
  show wpAny _ _ (pure ()) _ _ _
  refine wpAny_pure ?_
  show wpAny _ _ (execs _ _) _ _ _
  have k4 : ∀ b o, s.heap.get? b = some o → h₄.get? b = some o := fun b o e => sb4.extBut b o (nL b o e) (sb3.extBut b o (nL b o e) (k2 b o (k b o e)))
  have M4 : L2.Mod K mg h₄ := mod_keeps M k4
  -- return ..
  refine wpAny_execs_cons (wpAny_Return_some (BoolOp_and ?_))
  refine wpAny_Call_Name_kw (lw_glob M4.glob hw ?_)
  refine PySem.W.callWith_K (h₀ := s.heap) M.kin Fw.kp (Calls.spliced_cons (lw_loc hn4 (v := .int i t) (by rfl) (Calls.spliced_nil ⟨M4.kin, ?_⟩)))
  refine wpAny_call (codeAny_mono (lw_whole Fw T M4 hrm (bW _ _ M4.kin)) fun r s5 hr => ?_)
  obtain ⟨rfl, h₅, tk5, rfl, k5⟩ := hr
  refine wpAny_truthy_bool ?_
  show wpAny _ _ _ _ _ _
  have M5 : L2.Mod K mg h₅ := mod_keeps M4 k5
  have hn5 := hn4.keeps k5
  refine BoolOp_and ?_
  refine wpAny_Call_Name_kw (lw_glob M5.glob hw ?_)
  refine PySem.W.callWith_K (h₀ := s.heap) M.kin Fw.kp (Calls.spliced_cons (lw_loc hn5 (v := .int j u) (by rfl) (Calls.spliced_nil ⟨M5.kin, ?_⟩)))
  refine wpAny_call (codeAny_mono (lw_whole Fw T M5 hrm (bW _ _ M5.kin)) fun r s6 hr => ?_)
  obtain ⟨rfl, h₆, tk6, rfl, k6⟩ := hr
  refine wpAny_truthy_bool ?_
  show wpAny _ _ _ _ _ _
  have M6 : L2.Mod K mg h₆ := mod_keeps M5 k6
  have hn6 := hn5.keeps k6
  have kk : ∀ b o, s.heap.get? b = some o → h₆.get? b = some o := fun b o e => k6 b o (k5 b o (k4 b o e))
  refine BoolOp_and (wpAny_Compare1 (lw_loc hn6 (v := .int j u) (by rfl) (wpAny_Constant_int (PySem.P.gt_int (wpAny_truthy_bool ?_)))))
  by_cases hj : (0 : Int) < j
  · rw [decide_eq_true (show j > 0 from hj)]
    show wpAny _ _ _ _ _ _
    refine BoolOp_one (wpAny_Compare1 (wpAny_Call_Name_kw (lw_glob M6.glob T.g_gcd ?_)))
    refine PyProof.Rows.callWith_builtin1 (Calls.spliced_cons (lw_loc hn6 (v := .int i t) (by rfl) (Calls.spliced_cons (lw_loc hn6 (v := .int j u) (by rfl) (Calls.spliced_nil ?_))))) rfl rfl
    refine PySem.W.mg_gcd fun _ => ?_
    refine wpAny_Constant_int (PySem.P.eq_int ?_)
    exact ⟨by simp, _, _, rfl, kk⟩
  · rw [decide_eq_false (show ¬ j > 0 from hj)]
    exact ⟨by simp, _, _, rfl, kk⟩
end

end Vx
namespace Vx
open PySem PySem.Spec PyProof.Rows L2
/-- the frame that runs is a plain def's -/
def PlainX (X : Cx) : Prop := ∃ e l, X.stack = e :: l ∧ e.scope.isGenerator = false ∧ e.scope.isCoroutine = false ∧ e.builtins = builtinsNs ∧ e.globals = mainGlobals
def CDivY (_ j : Int) : Prop := j ≠ 0
theorem cdivy {i j : Int} {b : Nat} (h0 : j ≠ 0) (_ : Bz b j) (_ : b ≤ 900000) : CDivY i j := h0
theorem cmuly {i j : Int} {a b : Nat} (ha : Bz a i) (hb : Bz b j) (h : a + b ≤ 10000000) : CMulX i j := mulx_ok ha hb (by omega)
section
variable {X : Cx}
theorem Inv.keepB {pins : List (Addr × Obj)} {σ : L2.St} {H : Hp} {s : Shared} (I : Inv X pins σ H s) : ∀ b o, X.base.get? b = some o → s.heap.get? b = some o := fun b o e => (I.bs b o e).1
theorem op_fdivY (S : Sys X.base) (hr : Room 32 X.A) (ht : X.prog.given.tree = none) (pl : PlainX X) : OpR X (binaryOp .FloorDiv) (rI CDivY fun i j => .int (i.fdiv j)) := by
  intro pins s σ H x y v u Q I rx ry h
  obtain ⟨i, j, rfl, rfl, hc, q⟩ := h
  obtain ⟨t, rfl⟩ := rx
  obtain ⟨t', rfl⟩ := ry
  obtain ⟨e, l, hs, h1, h2, h3, h4⟩ := pl
  have k := Inv.keepB I
  refine floordiv_int hc ⟨.int (i.fdiv j), H, I.tok _, ⟨_, rfl⟩, q⟩ (.inr (PylongRoom.of (S.2.1.keeps k) ?_ (SeerAt.of (S.2.2.keeps k) ht (I.ok.frames.trans (congrArg some hs)) h1 h2 h3 h4)))
  have := hr.dp
  show _ + 100 < _
  omega
end
end Vx
-- pyl
set_option Elab.async false
set_option linter.all false
set_option maxRecDepth 100000
set_option maxHeartbeats 4000000
namespace Vx
open PySem PySem.Spec PyProof.Rows L2
local macro_rules | `(tactic| walk_at "cl") => `(tactic| first | assumption | exact Bz.mono (Bz.mul (by assumption) (by assumption)) (by decide) | rfl | omega | exact sz_of 0 rfl (by decide) | exact sz_of 1 rfl (by decide) | exact sz_of 2 rfl (by decide) | exact sz_of 3 rfl (by decide) | exact cmulx (by assumption) (by assumption) (by decide) | exact Bz.mono (Bz.mul (by assumption) (by assumption)) (by decide) | decide)
local macro_rules | `(tactic| walk_at "ex") => `(tactic| ((show Exists _); first | apply @Exists.intro V | apply @Exists.intro Int | apply @Exists.intro Addr | apply @Exists.intro (List V) | apply @Exists.intro Nat | apply @Exists.intro Str | apply @Exists.intro Bool | apply @Exists.intro (Option V) | apply @Exists.intro String | apply @Exists.intro Rat | apply @Exists.intro (List Rat)))
local macro_rules | `(tactic| walk_at "rd") => `(tactic| ((repeat (first | (walk_at "ex") | (apply And.intro; (focus (walk_at "cl"))))); (try dsimp only [])))
local macro_rules | `(tactic| walk_at "r0") => `(tactic| (repeat (first | (walk_at "ex") | (apply And.intro; (focus (walk_at "cl"))))))

section
variable {X : Cx}
theorem ps_absurd {st : Stmt} : PS X st (fun _ _ _ => False) := ⟨fun _ _ _ _ _ _ h => h.elim⟩
end
/-- the constant NIL -/
structure NilC (K : PySem.W.Frag) (mg : Str → Option Value) (aN : Addr) : Prop where
  g : mg "NIL" = some (.ref aN)
  sq : ∀ H : Hp, SqT K H aN [.int 0, .int 1]
theorem NilC.fr {K : PySem.W.Frag} {mg : Str → Option Value} {aN : Addr} (h : NilC K mg aN) (H : Hp) : FrT K H (.ref aN) 0 := ⟨aN, rfl, h.sq H⟩
section
variable {P : Program} {w : World} {K : PySem.W.Frag} {mg : Str → Option Value} {base : Heap}
/-- ratio: n / m in lowest terms -/
def spRatio (K : PySem.W.Frag) : Sp := fun vs H Q _ => ∃ n m : Int, vs = [.int n, .int m] ∧ m ≠ 0 ∧ Bz 800000 m ∧ ∀ v H', Same H H' → FrT K H' v (Rat.divInt n m) → Q v H'
theorem sc_ratio : FnScope ["number", "under", "part"] ["number", "under"] (defScope s_ratio) := ⟨rfl, rfl, rfl, by decide +kernel, rfl, by decide +kernel, by decide +kernel⟩
theorem d_ratio (W : FunIn K mg "ratio" s_ratio) (T : Blt mg) (sy : Sys base) (hP : P.given.tree = none) : Df P w K mg base "ratio" 33 ["number", "under"] (spRatio K) := by
  obtain ⟨f, fd, F, hm⟩ := W
  refine ⟨f, fd, F.ok sc_ratio (fun vs H Q E h => ?_) (fun cdv A outer s H vs Q E hr h => ?_), hm, F.kp, F.binds fun _ _ _ _ _ _ us hl => match us, hl with | [_, _], _ => rfl⟩
  · obtain ⟨n, m, rfl, _⟩ := h
    rfl
  · obtain ⟨n, m, rfl, hm0, hmz, q⟩ := h
    have nd := sc_ratio.nd
    refine ⟨_, (pss_cons (ps_set (i := 2) nd rfl (Or.inl rfl) (pe_callBfun cr_gcd (by rfl) T.g_gcd (pa_cons (pv 0) (pa_cons (pv 1) pa_nil))))
        (pss_cons (ps_if (pt_cmpR op_lt (pv 1) pe_int (nomark _)) (pss_one (ps_set (i := 2) nd rfl (Or.inl rfl) (pe_un un_neg (pv 2)))) pss_nil)
        (pss_one (ps_ret (pe_tup (pa_cons (pe_op (op_fdivY sy hr hP ⟨_, _, rfl, rfl, rfl, rfl, rfl⟩) (pv 0) (pv 2)) (pa_cons (pe_op (op_fdivY sy hr hP ⟨_, _, rfl, rfl, rfl, rfl, rfl⟩) (pv 1) (pv 2)) pa_nil))))))), ?_⟩
    have hg : ((n.natAbs.gcd m.natAbs : Nat) : Int) ≠ 0 := by
      have := Nat.gcd_pos_of_pos_right n.natAbs (show 0 < m.natAbs by omega)
      omega
    have hgz : Bz 800000 ((n.natAbs.gcd m.natAbs : Nat) : Int) := by
      unfold Bz
      rw [Int.natAbs_natCast]
      exact Nat.lt_of_le_of_lt (Nat.gcd_le_right _ (by omega)) hmz
    have fin : ∀ p, H p = none → Q (.ref p) (upd H p (.tup [.int (Rat.divInt n m).num, .int (Rat.divInt n m).den])) := fun p hp => q _ _ (same_new hp) ⟨p, rfl, SqT.of upd_same⟩
    walk_at "rd"
    refine tif (fun hneg => ?_) (fun hpos => ?_)
    · obtain ⟨e1, e2⟩ := fr_neg (n := n) hneg
      have c1 : ∀ i : Int, CDivY i (-((n.natAbs.gcd m.natAbs : Nat) : Int)) := fun i => cdivy (by omega) (by unfold Bz; rw [Int.natAbs_neg]; exact hgz) (by decide)
      have c2 := c1 n
      have c3 := c1 m
      walk_at "rd"
      rw [e1, e2]
      exact fin
    · obtain ⟨e1, e2⟩ := fr_pos_f (n := n) (show 0 < m by omega)
      have c1 : ∀ i : Int, CDivY i ((n.natAbs.gcd m.natAbs : Nat) : Int) := fun i => cdivy hg hgz (by decide)
      have c2 := c1 n
      have c3 := c1 m
      walk_at "rd"
      rw [e1, e2]
      exact fin
/-- of two fractions a third -/
def spR2 (K : PySem.W.Frag) (op : Rat → Rat → Rat) : Sp := fun vs H Q _ => ∃ (x y : V) (p q : Rat), vs = [x, y] ∧ FrT K H x p ∧ FrT K H y q ∧ Qz 3900 p ∧ Qz 3900 q ∧ ∀ v H', Same H H' → FrT K H' v (op p q) → Q v H'
theorem sc_ratio_less : FnScope ["one", "other"] ["one", "other"] (defScope s_ratio_less) := ⟨rfl, rfl, rfl, by decide +kernel, rfl, by decide +kernel, by decide +kernel⟩
theorem d_ratio_less (W : FunIn K mg "ratio_less" s_ratio_less) (Dratio : Df P w K mg base "ratio" 33 ["number", "under"] (spRatio K)) : Df P w K mg base "ratio_less" 34 ["one", "other"] (spR2 K (fun p q => p - q)) := by
  obtain ⟨f, fd, F, hm⟩ := W
  refine ⟨f, fd, F.ok sc_ratio_less (fun vs H Q E h => ?_) (fun cdv A outer s H vs Q E hr h => ?_), hm, F.kp, F.binds fun _ _ _ _ _ _ us hl => match us, hl with | [_, _], _ => rfl⟩
  · obtain ⟨x, y, p, q, rfl, _⟩ := h
    rfl
  · obtain ⟨x, y, p, r, rfl, ⟨a, rfl, ha⟩, ⟨b, rfl, hb⟩, zp, zr, q⟩ := h
    have nd := sc_ratio_less.nd
    have b1 := zp.n
    have b2 := zp.dd
    have b3 := zr.n
    have b4 := zr.dd
    have hd : (p.den : Int) * (r.den : Int) ≠ 0 := Int.mul_ne_zero (by have := p.den_nz; omega) (by have := r.den_nz; omega)
    refine ⟨_, (pss_one (ps_ret (pe_d Dratio (hr.mono (by decide)) rfl (pa_cons (pe_op op_sub (pe_op op_mulX (pe_ix ix_tup (pv 0) pe_int (fun _ _ => rfl)) (pe_ix ix_tup (pv 1) pe_int (fun _ _ => rfl))) (pe_op op_mulX (pe_ix ix_tup (pv 1) pe_int (fun _ _ => rfl)) (pe_ix ix_tup (pv 0) pe_int (fun _ _ => rfl)))) (pa_cons (pe_op op_mulX (pe_ix ix_tup (pv 0) pe_int (fun _ _ => rfl)) (pe_ix ix_tup (pv 1) pe_int (fun _ _ => rfl))) pa_nil))))), ?_⟩
    walk_at "rd"
    rw [fr_sub]
    exact q
theorem sc_ratio_product : FnScope ["one", "other"] ["one", "other"] (defScope s_ratio_product) := ⟨rfl, rfl, rfl, by decide +kernel, rfl, by decide +kernel, by decide +kernel⟩
theorem d_ratio_product (W : FunIn K mg "ratio_product" s_ratio_product) (Dratio : Df P w K mg base "ratio" 33 ["number", "under"] (spRatio K)) : Df P w K mg base "ratio_product" 34 ["one", "other"] (spR2 K (fun p q => p * q)) := by
  obtain ⟨f, fd, F, hm⟩ := W
  refine ⟨f, fd, F.ok sc_ratio_product (fun vs H Q E h => ?_) (fun cdv A outer s H vs Q E hr h => ?_), hm, F.kp, F.binds fun _ _ _ _ _ _ us hl => match us, hl with | [_, _], _ => rfl⟩
  · obtain ⟨x, y, p, q, rfl, _⟩ := h
    rfl
  · obtain ⟨x, y, p, r, rfl, ⟨a, rfl, ha⟩, ⟨b, rfl, hb⟩, zp, zr, q⟩ := h
    have nd := sc_ratio_product.nd
    have b1 := zp.n
    have b2 := zp.dd
    have b3 := zr.n
    have b4 := zr.dd
    have hd : (p.den : Int) * (r.den : Int) ≠ 0 := Int.mul_ne_zero (by have := p.den_nz; omega) (by have := r.den_nz; omega)
    refine ⟨_, (pss_one (ps_ret (pe_d Dratio (hr.mono (by decide)) rfl (pa_cons (pe_op op_mulX (pe_ix ix_tup (pv 0) pe_int (fun _ _ => rfl)) (pe_ix ix_tup (pv 1) pe_int (fun _ _ => rfl))) (pa_cons (pe_op op_mulX (pe_ix ix_tup (pv 0) pe_int (fun _ _ => rfl)) (pe_ix ix_tup (pv 1) pe_int (fun _ _ => rfl))) pa_nil))))), ?_⟩
    walk_at "rd"
    rw [fr_mul]
    exact q
end

end Vx
-- pyl
set_option Elab.async false
set_option linter.all false
set_option maxRecDepth 100000
set_option maxHeartbeats 4000000
namespace Vx
open PySem PySem.Spec PyProof.Rows L2
local macro_rules | `(tactic| walk_at "cl") => `(tactic| first | rfl | assumption | omega | exact sz_of 0 rfl (by decide) | exact sz_of 1 rfl (by decide) | exact sz_of 2 rfl (by decide) | exact sz_of 3 rfl (by decide) | exact cmulx (by assumption) (by assumption) (by decide) | exact Bz.mono (Bz.mul (by assumption) (by assumption)) (by decide) | decide)
local macro_rules | `(tactic| walk_at "ex") => `(tactic| ((show Exists _); first | apply @Exists.intro V | apply @Exists.intro Int | apply @Exists.intro Addr | apply @Exists.intro (List V) | apply @Exists.intro Nat | apply @Exists.intro Str | apply @Exists.intro Bool | apply @Exists.intro (Option V) | apply @Exists.intro String | apply @Exists.intro Rat | apply @Exists.intro (List Rat)))
local macro_rules | `(tactic| walk_at "rd") => `(tactic| ((repeat (first | (walk_at "ex") | (apply And.intro; (focus (walk_at "cl"))))); (try dsimp only [])))
local macro_rules | `(tactic| walk_at "r0") => `(tactic| (repeat (first | (walk_at "ex") | (apply And.intro; (focus (walk_at "cl"))))))

section
variable {P : Program} {w : World} {K : PySem.W.Frag} {mg : Str → Option Value} {base : Heap}
/-- without_end of fractions -/
def spEndF (K : PySem.W.Frag) : Sp := fun vs H Q _ => ∃ (l : Addr) (aN : Addr) (us : List V) (qs : List Rat), vs = [.ref l, .ref aN] ∧ SqL K H l us ∧ FrA K H us qs ∧ FrT K H (.ref aN) 0 ∧ us.length < 1000 ∧
  ∀ p m, H p = none → m ≤ us.length → Tr (qs.take m) → (∀ c ∈ qs.drop m, c = 0) → Q (.ref p) (upd H p (.lst (us.take m)))
theorem sc_without_end : FnScope ["numbers", "nought", "many"] ["numbers", "nought"] (defScope s_without_end) := ⟨rfl, rfl, rfl, by decide +kernel, rfl, by decide +kernel, by decide +kernel⟩
theorem d_without_end (W : FunIn K mg "without_end" s_without_end) (T : Blt mg) : Df P w K mg base "without_end" 33 ["numbers", "nought"] (spEndF K) := by
  obtain ⟨f, fd, F, hm⟩ := W
  refine ⟨f, fd, F.ok sc_without_end (fun vs H Q E h => ?_) (fun cdv A outer s H vs Q E hr h => ?_), hm, F.kp, F.binds fun _ _ _ _ _ _ us hl => match us, hl with | [_, _], _ => rfl⟩
  · obtain ⟨l, aN, us, qs, rfl, _⟩ := h
    rfl
  · obtain ⟨l, aN, us, qs, rfl, hl, hA, hN, hlen, q⟩ := h
    have nd := sc_without_end.nd
    have hL := hA.length
    refine ⟨_, (pss_cons (ps_set (i := 2) nd rfl (Or.inl rfl) (pe_callB call_len_seq (by rfl) T.n_len (by decide +kernel) (pa_cons (pv 0) pa_nil)))
        (pss_cons (ps_while PassesOwn.never (PW.pt (pw_and (pt_cmpR op_gt (pv 2) pe_int (nomark _)) (pw_and1 (pt_cmpR (op_eqD (hu64 hr)) (pe_ix ix_list (pv 0) (pe_op op_sub (pv 2) pe_int) (fun _ _ => rfl)) (pv 1) (nomark _))))) (pss_one (ps_aug (i := 2) nd rfl (Or.inl rfl) pe_int ip_sub)))
        (pss_one (ps_ret (pe_slice sl_list (pv 0) po_none (po_some (pv 2))))))), ?_⟩
    have hlr : SqL K H l us ∨ SqT K H l us := Or.inl hl
    walk_at "rd"
    refine ⟨fun m σ H' => σ = [some (.ref l), some (.ref aN), some (.int (m : Int))] ∧ H' = H ∧ m ≤ us.length ∧ ∀ c ∈ qs.drop m, c = 0, ⟨us.length, rfl, rfl, Nat.le_refl _, fun c hc => ?_⟩, ?_⟩
    · rw [hL, List.drop_length] at hc
      cases hc
    · rintro m σ H' ⟨rfl, rfl, hm1, hz⟩
      walk_at "rd"
      refine tif (fun h0 => ?_) (fun h0 => ?_)
      · have h0' : 0 < m := by omega
        obtain ⟨u, hu⟩ : ∃ u, us[m - 1]? = some u := ⟨_, List.getElem?_eq_getElem (by omega)⟩
        obtain ⟨r, hr1, hfr⟩ := hA.get hu
        have hat : atI us ((m : Int) - 1) = some u := at_of (j := m - 1) (by omega) hu
        have hr2 : qs[m - 1]'(by omega) = r := by
          rw [List.getElem?_eq_getElem (by omega)] at hr1
          exact Option.some.inj hr1
        walk_at "rd"
        refine rEqD_fr hfr hN ?_
        walk_at "rd"
        refine tif (fun he => ?_) (fun he => ?_)
        · refine ⟨fun σ' H'' => σ' = [some (.ref l), some (.ref aN), some (.int ((m - 1 : Nat) : Int))] ∧ H'' = H', ?_, ?_⟩
          · rintro σ' H'' ⟨rfl, rfl⟩
            refine ⟨m - 1, by omega, rfl, rfl, by omega, fun c hc => ?_⟩
            have e1 : qs.drop (m - 1) = r :: qs.drop m := by
              rw [List.drop_eq_getElem_cons (by omega), hr2, Nat.sub_add_cancel h0']
            rw [e1] at hc
            rcases List.mem_cons.mp hc with z | z
            · rw [z, he]
            · exact hz c z
          · have em : (m : Int) - 1 = ((m - 1 : Nat) : Int) := by omega
            walk_at "rd"
            rw [em]
            exact ⟨rfl, rfl⟩
        · walk_at "rd"
          rw [cutV_take hm1]
          exact fun p hp => q p m hp hm1 (tr_take_of h0' (by omega) (by rw [hr2]; exact he)) hz
      · have m0 : m = 0 := by omega
        subst m0
        walk_at "rd"
        rw [cutV_take hm1]
        exact fun p hp => q p 0 hp hm1 tr_nil hz
/-- trimmed: the row of some fractions -/
def spTrim (K : PySem.W.Frag) : Sp := fun vs H Q _ => ∃ (l : Addr) (us : List V) (qs : List Rat), vs = [.ref l] ∧ SqL K H l us ∧ FrA K H us qs ∧ us.length < 1000 ∧
  ∀ v H' m, Same H H' → Tr (qs.take m) → (∀ c ∈ qs.drop m, c = 0) → RwT K H' v (qs.take m) → Q v H'
theorem sc_trimmed : FnScope ["fractions"] ["fractions"] (defScope s_trimmed) := ⟨rfl, rfl, rfl, by decide +kernel, rfl, by decide +kernel, by decide +kernel⟩
theorem d_trimmed {aNIL : Addr} (W : FunIn K mg "trimmed" s_trimmed) (T : Blt mg) (hNIL : NilC K mg aNIL) (Dwithout_end : Df P w K mg base "without_end" 33 ["numbers", "nought"] (spEndF K)) : Df P w K mg base "trimmed" 34 ["fractions"] (spTrim K) := by
  obtain ⟨f, fd, F, hm⟩ := W
  refine ⟨f, fd, F.ok sc_trimmed (fun vs H Q E h => ?_) (fun cdv A outer s H vs Q E hr h => ?_), hm, F.kp, F.binds fun _ _ _ _ _ _ us hl => match us, hl with | [_], _ => rfl⟩
  · obtain ⟨l, us, qs, rfl, _⟩ := h
    rfl
  · obtain ⟨l, us, qs, rfl, hl, hA, hlen, q⟩ := h
    have nd := sc_trimmed.nd
    have hN := hNIL.fr H
    refine ⟨_, (pss_one (ps_ret (pe_callTy call_tuple_of (by rfl) T.n_tuple (by decide +kernel) (pa_cons (pe_d Dwithout_end (hr.mono (by decide)) rfl (pa_cons (pv 0) (pa_cons (pe_glob (v := .ref aNIL) rfl hNIL.g rfl) pa_nil))) pa_nil)))), ?_⟩
    walk_at "rd"
    intro p m hp hm1 ht hz
    have s1 := same_new (o := .lst (us.take m)) hp
    have e1 : upd H p (.lst (us.take m)) p = some (.lst (us.take m)) := upd_same
    generalize upd H p (.lst (us.take m)) = H1 at s1 e1
    refine ⟨_, _, rfl, Or.inl ⟨SqL.of e1, fun t ht' => ?_⟩⟩
    exact q _ _ m (s1.trans (same_new ht')) ht hz ⟨t, us.take m, rfl, SqT.of upd_same, fra_mono (same_t (s1.trans (same_new ht'))) (hA.take m)⟩
end

end Vx
-- pyl
set_option Elab.async false
set_option linter.all false
set_option maxRecDepth 100000
set_option maxHeartbeats 4000000
namespace Vx
open PySem PySem.Spec PyProof.Rows L2
local macro_rules | `(tactic| walk_at "cl") => `(tactic| first | assumption | exact Bz.mono (Bz.mul (by assumption) (by assumption)) (by decide) | rfl | omega | exact sz_of 0 rfl (by decide) | exact sz_of 1 rfl (by decide) | exact sz_of 2 rfl (by decide) | exact sz_of 3 rfl (by decide) | exact cmulx (by assumption) (by assumption) (by decide) | exact Bz.mono (Bz.mul (by assumption) (by assumption)) (by decide) | decide)
local macro_rules | `(tactic| walk_at "ex") => `(tactic| ((show Exists _); first | apply @Exists.intro V | apply @Exists.intro Int | apply @Exists.intro Addr | apply @Exists.intro (List V) | apply @Exists.intro Nat | apply @Exists.intro Str | apply @Exists.intro Bool | apply @Exists.intro (Option V) | apply @Exists.intro String | apply @Exists.intro Rat | apply @Exists.intro (List Rat)))
local macro_rules | `(tactic| walk_at "rd") => `(tactic| ((repeat (first | (walk_at "ex") | (apply And.intro; (focus (walk_at "cl"))))); (try dsimp only [])))
local macro_rules | `(tactic| walk_at "r0") => `(tactic| (repeat (first | (walk_at "ex") | (apply And.intro; (focus (walk_at "cl"))))))

section
variable {P : Program} {w : World} {K : PySem.W.Frag} {mg : Str → Option Value} {base : Heap}
/-- cleared: the numbers over one common divisor -/
def spClear (K : PySem.W.Frag) : Sp := fun vs H Q _ => ∃ (x : V) (qs : List Rat) (b : Nat), vs = [x] ∧ RwT K H x qs ∧ Qs b qs ∧ qs.length < 1000 ∧ (qs.length + 1) * b + 1 ≤ 8000 ∧
  ∀ (t l : Addr) (ns : List Int) (D : Int) (H' : Hp), Same H H' → SqT K H' t [.ref l, .int D] → H' l = some (.lst (ns.map V.int)) → ns.length = qs.length → 0 < D → Bz (qs.length * b + 1) D →
    (∀ n ∈ ns, Bz (b + (qs.length * b + 1)) n) → ns.map (fun (n : Int) => (n : Rat)) = qs.map ((D : Rat) * ·) → Q (.ref t) H'
theorem sc_cleared : FnScope ["row", "under", "fraction", "number", "part"] ["row"] (defScope s_cleared) := ⟨rfl, rfl, rfl, by decide +kernel, rfl, by decide +kernel, by decide +kernel⟩
theorem d_cleared (W : FunIn K mg "cleared" s_cleared) (T : Blt mg) (gl : mg "lcm" = some (.builtin "math.lcm")) : Df P w K mg base "cleared" 33 ["row"] (spClear K) := by
  obtain ⟨f, fd, F, hm⟩ := W
  refine ⟨f, fd, F.ok sc_cleared (fun vs H Q E h => ?_) (fun cdv A outer s H vs Q E hr h => ?_), hm, F.kp, F.binds fun _ _ _ _ _ _ us hl => match us, hl with | [_], _ => rfl⟩
  · obtain ⟨x, qs, b, rfl, _⟩ := h
    rfl
  · obtain ⟨x, qs, b, rfl, ⟨a, us, rfl, ha, hA⟩, hz, hlen, hb, q⟩ := h
    have nd := sc_cleared.nd
    have hL := hA.length
    refine ⟨_, (pss_cons (ps_set (i := 1) nd rfl (Or.inr rfl) pe_int)
        (pss_cons (ps_for PassesOwn.never rfl (pi_tup (pv 0)) (pg_name (i := 2) nd rfl (Or.inl rfl) (Or.inr rfl)) (pss_one (ps_set (i := 1) nd rfl (Or.inr rfl) (pe_callBfun cr_lcm (by rfl) gl (pa_cons (pv 1) (pa_cons (pe_ix ix_tup (pv 2) pe_int (fun _ _ => rfl)) pa_nil))))))
        (pss_one (ps_ret (pe_tup (pa_cons (pe_lc (own := [("number", 3), ("part", 4)]) rfl nd (pi_tup (pv 0)) (blkOk_by (own := [("number", 3), ("part", 4)]) (N := ["row", "under", "fraction", "number", "part"]) (sc := defScope s_cleared) (by decide +kernel)) (fun _ _ _ _ _ => (pg_pair (K := K) (i := 3) (j := 4) rfl rfl nd rfl rfl rfl rfl)) (fun _ _ _ _ _ => pts_nil) (fun _ _ _ _ _ => (pe_op op_mulX (pv 3) (pe_op op_fdivX (pv 1) (pv 4))))) (pa_cons (pv 1) pa_nil))))))), ?_⟩
    refine ⟨V.ref a, rfl, a, rfl, ⟨us, ha⟩, for_tup (K := K) (a := a) (xs := us) (fun i σ H' => ∃ (D : Int) (o : Option V), σ = [some (.ref a), some (.int D), o, none, none] ∧ H' = H ∧ 0 < D ∧ Bz (i * b + 1) D ∧ ∀ j, j < i → ∀ c, qs[j]? = some c → (c.den : Int) ∣ D) ⟨1, none, rfl, rfl, by decide, by unfold Bz; rw [Nat.zero_mul]; decide, fun j hj => absurd hj (Nat.not_lt_zero _)⟩ (fun i σ H' _ ⟨_, _, _, e, _⟩ => by rw [e]; exact ha) ?_ ?_⟩
    · rintro i u σ H' hu ⟨D, o, rfl, rfl, hD0, hDz, hdv⟩
      obtain ⟨c, hc, ⟨e, rfl, he⟩⟩ := hA.get hu
      have hi : i < us.length := (List.getElem?_eq_some_iff.mp hu).1
      have hcz : Qz b c := hz c (List.mem_of_getElem? hc)
      have le1 : i * b + 1 + b ≤ qs.length * b + 1 := by
        have := Nat.mul_le_mul_right b (show i + 1 ≤ qs.length by omega)
        rw [Nat.add_mul, Nat.one_mul] at this
        omega
      have le2 : qs.length * b + b = (qs.length + 1) * b := by rw [Nat.add_mul, Nat.one_mul]
      have z1 : Bz 9000 D := hDz.mono (by omega)
      have z2 : Bz 9000 (c.den : Int) := hcz.dd.mono (by omega)
      refine ⟨_, rfl, ?_⟩
      walk_at "rd"
      refine ⟨lcm_pos' hD0 c.den_nz, ?_, fun j hj c' hc' => ?_⟩
      · rw [Nat.add_mul, Nat.one_mul, Nat.add_right_comm]
        exact lcm_bz hD0 hDz hcz.2
      · rcases Nat.lt_or_eq_of_le (Nat.le_of_lt_succ hj) with hj | rfl
        · exact lcm_left (hdv j hj c' hc')
        · rw [hc] at hc'
          cases hc'
          exact lcm_right
    · rintro σ H' ⟨D, o, rfl, rfl, hD0, hDz, hdv⟩
      rw [hL] at hDz hdv
      refine ⟨V.ref a, rfl, a, rfl, ⟨us, ha⟩, fun l hl => lc_map (walk_tup (K := K) (a := a) (xs := us)) hl (by rw [sizeLine_eq]; omega) (fun i _ v => ∃ c, qs[i]? = some c ∧ v = .int (c.num * D.fdiv (c.den : Int))) (fun _ _ _ _ _ h => h) (fun H1 s1 => same_seqT s1 ha) ?_ ?_⟩
      · rintro i u H1 H2 hi s1 _ ⟨rfl, hu⟩ Fin hF
        obtain ⟨c, hc, ⟨e, rfl, he⟩⟩ := hA.get hu
        have hcz : Qz b c := hz c (List.mem_of_getElem? hc)
        have he1 := same_seqT s1 he
        have le2 : qs.length * b + b = (qs.length + 1) * b := by rw [Nat.add_mul, Nat.one_mul]
        have c1 : CDivX D (c.den : Int) := cdivx (by have := c.den_nz; omega) (hcz.dd.mono (by omega)) (Nat.le_refl 9000)
        have c2 : CMulX c.num (D.fdiv (c.den : Int)) := cmulx (a := b) (b := qs.length * b + 1) hcz.n (by
          unfold Bz at *
          rw [Int.fdiv_eq_ediv_of_nonneg _ (by omega)]
          exact Nat.lt_of_le_of_lt (Int.natAbs_ediv_le_natAbs _ _) hDz) (by omega)
        walk_at "rd"
        exact hF _ _ (Same.refl _) ⟨c, hc, rfl⟩
      · rintro H1 acc s1 hacc hlen1 hel
        have hex : acc = ((qs.map fun c => c.num * D.fdiv (c.den : Int)) : List Int).map V.int := by
          refine List.ext_getElem? fun i => ?_
          by_cases hi : i < acc.length
          · obtain ⟨c, hc, hv⟩ := hel i _ (List.getElem?_eq_getElem hi)
            rw [List.getElem?_eq_getElem hi, hv, List.getElem?_map, List.getElem?_map, hc]
            rfl
          · rw [List.getElem?_eq_none (by omega), List.getElem?_eq_none (by simp only [List.length_map]; omega)]
        walk_at "rd"
        intro t ht
        have s2 := same_new (o := .tup [.ref l, .int D]) ht
        refine q t l (qs.map fun c => c.num * D.fdiv (c.den : Int)) D _ (s1.trans s2) (SqT.of upd_same) (by rw [← hex]; exact s2 _ _ hacc) (List.length_map _) hD0 hDz (fun n hn => ?_) ?_
        · obtain ⟨c, hc, rfl⟩ := List.mem_map.mp hn
          exact clear_bz hD0 hDz (hz c hc)
        · rw [List.map_map]
          refine List.map_congr_left fun c hc => ?_
          obtain ⟨j, hj⟩ := List.mem_iff_getElem?.mp hc
          exact clear_eq (hdv j (List.getElem?_eq_some_iff.mp hj).1 c hj)
end
section
variable {P : Program} {w : World} {K : PySem.W.Frag} {mg : Str → Option Value} {base : Heap}
/-- row_over: the row of whole numbers over one -/
def spOver (K : PySem.W.Frag) : Sp := fun vs H Q _ => ∃ (l : Addr) (ns : List Int) (m : Int), vs = [.ref l, .int m] ∧ SqL K H l (ns.map V.int) ∧ m ≠ 0 ∧ Bz 800000 m ∧ ns.length < 1000 ∧
  ∀ v r H', Same H H' → RwT K H' v r → Tr r → (∀ x, ev r x = ev (toR ns) x / (m : Rat)) → (∀ b, (∀ n ∈ ns, Bz b n) → Bz b m → Qs b r) → r.length ≤ ns.length → Q v H'
theorem sc_row_over : FnScope ["numbers", "under", "number"] ["numbers", "under"] (defScope s_row_over) := ⟨rfl, rfl, rfl, by decide +kernel, rfl, by decide +kernel, by decide +kernel⟩
theorem d_row_over (W : FunIn K mg "row_over" s_row_over) (Dratio : Df P w K mg base "ratio" 33 ["number", "under"] (spRatio K)) (Dtrimmed : Df P w K mg base "trimmed" 34 ["fractions"] (spTrim K)) : Df P w K mg base "row_over" 35 ["numbers", "under"] (spOver K) := by
  obtain ⟨f, fd, F, hm⟩ := W
  refine ⟨f, fd, F.ok sc_row_over (fun vs H Q E h => ?_) (fun cdv A outer s H vs Q E hr h => ?_), hm, F.kp, F.binds fun _ _ _ _ _ _ us hl => match us, hl with | [_, _], _ => rfl⟩
  · obtain ⟨l, ns, m, rfl, _⟩ := h
    rfl
  · obtain ⟨l, ns, m, rfl, hl, hm0, hmz, hlen, q⟩ := h
    have nd := sc_row_over.nd
    refine ⟨_, (pss_one (ps_ret (pe_d Dtrimmed (hr.mono (by decide)) rfl (pa_cons (pe_lc (own := [("number", 2)]) rfl nd (pi_list (pv 0)) (blkOk_by (own := [("number", 2)]) (N := ["numbers", "under", "number"]) (sc := defScope s_row_over) (by decide +kernel)) (fun _ _ _ _ _ => (pg_name (i := 2) nd rfl (Or.inl rfl) (Or.inr rfl))) (fun _ _ _ _ _ => pts_nil) (fun _ _ _ _ _ => (pe_d Dratio (hr.mono (by decide)) rfl (pa_cons (pv 2) (pa_cons (pv 1) pa_nil))))) pa_nil)))), ?_⟩
    refine ⟨V.ref l, rfl, l, rfl, ⟨_, hl⟩, fun D hD => lc_map (walk_list (K := K) (a := l) (xs := ns.map V.int)) hD (by rw [sizeLine_eq, List.length_map]; omega) (fun i H v => ∃ n, ns[i]? = some n ∧ FrT K H v (Rat.divInt n m)) (fun i H H' v e ⟨n, h1, h2⟩ => ⟨n, h1, h2.mono e⟩) (fun H1 s1 => s1.seq hl) ?_ ?_⟩
    · rintro i u H1 H2 hi s1 _ ⟨rfl, hu⟩ Fin hF
      rw [List.getElem?_map] at hu
      obtain ⟨n, hn, rfl⟩ := Option.map_eq_some_iff.mp hu
      walk_at "rd"
      exact fun v H' s2 hv => hF _ _ s2 ⟨n, hn, hv⟩
    · intro H1 acc s1 hacc hlen1 hel
      rw [List.length_map] at hlen1
      have hA : FrA K H1 acc (ns.map fun n => Rat.divInt n m) := by
        refine Al.of (by rw [List.length_map, hlen1]) fun i v c h1 h2 => ?_
        obtain ⟨n, hn, hv⟩ := hel i v h1
        rw [List.getElem?_map, hn] at h2
        cases h2
        exact hv
      refine ⟨D, acc, _, rfl, SqL.of hacc, hA, by omega, fun v H' k s2 ht hz hv => ?_⟩
      refine q v _ H' (s1.trans s2) hv ht (fun x => ?_) (fun b hb hbm c hc => ?_) ?_
      · rw [ev_take_drop _ _ hz, ev_toR_div _ hm0]
      · obtain ⟨n, hn, rfl⟩ := List.mem_map.mp (List.mem_of_mem_take hc)
        exact Qz.of_div (hb n hn) hbm hm0
      · rw [List.length_take, List.length_map]
        omega
/-- padded: noughts behind a row -/
def spPad (K : PySem.W.Frag) : Sp := fun vs H Q _ => ∃ (x : V) (qs : List Rat) (m : Nat), vs = [x, .int (m : Int)] ∧ RwT K H x qs ∧ qs.length ≤ m ∧ m ≤ 1000 ∧
  ∀ v H', Same H H' → RwT K H' v (qs ++ List.replicate (m - qs.length) 0) → Q v H'
end

end Vx
-- pyl
set_option Elab.async false
set_option linter.all false
set_option maxRecDepth 100000
set_option maxHeartbeats 4000000
namespace Vx
open PySem PySem.Spec PyProof.Rows L2
local macro_rules | `(tactic| walk_at "cl") => `(tactic| first | rfl | assumption | omega | exact sz_of 0 rfl (by decide) | exact sz_of 1 rfl (by decide) | exact sz_of 2 rfl (by decide) | exact sz_of 3 rfl (by decide) | exact cmulx (by assumption) (by assumption) (by decide) | exact Bz.mono (Bz.mul (by assumption) (by assumption)) (by decide) | decide)
local macro_rules | `(tactic| walk_at "ex") => `(tactic| ((show Exists _); first | apply @Exists.intro V | apply @Exists.intro Int | apply @Exists.intro Addr | apply @Exists.intro (List V) | apply @Exists.intro Nat | apply @Exists.intro Str | apply @Exists.intro Bool | apply @Exists.intro (Option V) | apply @Exists.intro String | apply @Exists.intro Rat | apply @Exists.intro (List Rat)))
local macro_rules | `(tactic| walk_at "rd") => `(tactic| ((repeat (first | (walk_at "ex") | (apply And.intro; (focus (walk_at "cl"))))); (try dsimp only [])))
local macro_rules | `(tactic| walk_at "r0") => `(tactic| (repeat (first | (walk_at "ex") | (apply And.intro; (focus (walk_at "cl"))))))

section
variable {P : Program} {w : World} {K : PySem.W.Frag} {mg : Str → Option Value} {base : Heap}
/-- of two rows a third, number by number -/
def spRows (K : PySem.W.Frag) (op : Rat → Rat → Rat) : Sp := fun vs H Q _ => ∃ (x y : V) (ps qs : List Rat) (b : Nat), vs = [x, y] ∧ RwT K H x ps ∧ RwT K H y qs ∧ Qs b ps ∧ Qs b qs ∧ 0 < b ∧ b ≤ 3900 ∧ ps.length < 900 ∧ qs.length < 900 ∧
  ∀ v r H', Same H H' → RwT K H' v r → Tr r → (∀ z, ev r z = op (ev ps z) (ev qs z)) → Qs (b + b + 1) r → r.length ≤ max ps.length qs.length → Q v H'
theorem ev_zip_add (a b : List Rat) (h : a.length = b.length) (x : Rat) : ev ((List.range a.length).map fun i => a.getD i 0 + b.getD i 0) x = ev a x + ev b x := by
  induction a generalizing b with
  | nil =>
    cases b with
    | nil => show (0 : Rat) = 0 + 0; grind
    | cons d b => cases h
  | cons c a ih =>
    cases b with
    | nil => cases h
    | cons d b =>
      rw [List.length_cons, List.range_succ_eq_map, List.map_cons, List.map_map]
      show (c + d) + x * ev ((List.range a.length).map fun i => a.getD i 0 + b.getD i 0) x = (c + x * ev a x) + (d + x * ev b x)
      rw [ih b (by simpa using h)]
      grind
theorem ev_zip_sub (a b : List Rat) (h : a.length = b.length) (x : Rat) : ev ((List.range a.length).map fun i => a.getD i 0 - b.getD i 0) x = ev a x - ev b x := by
  induction a generalizing b with
  | nil =>
    cases b with
    | nil => show (0 : Rat) = 0 - 0; grind
    | cons d b => cases h
  | cons c a ih =>
    cases b with
    | nil => cases h
    | cons d b =>
      rw [List.length_cons, List.range_succ_eq_map, List.map_cons, List.map_map]
      show (c - d) + x * ev ((List.range a.length).map fun i => a.getD i 0 - b.getD i 0) x = (c + x * ev a x) - (d + x * ev b x)
      rw [ih b (by simpa using h)]
      grind
theorem ev_pad (a : List Rat) (n : Nat) (x : Rat) : ev (a ++ List.replicate n 0) x = ev a x := by
  rw [ev_append, ev_replicate0]
  grind
theorem getD_some {α : Type} {l : List α} {i : Nat} {a d : α} (h : l[i]? = some a) : l.getD i d = a := by
  rw [List.getD_eq_getElem?_getD, h]
  rfl
theorem qs_pad {b n : Nat} {a : List Rat} (h : Qs b a) (hb : 0 < b) : Qs b (a ++ List.replicate n 0) := fun c hc => by
  rcases List.mem_append.mp hc with z | z
  · exact h c z
  · rw [(List.mem_replicate.mp z).2]
    exact qz0 hb
end

end Vx
-- pyl
set_option Elab.async false
set_option linter.all false
set_option maxRecDepth 100000
set_option maxHeartbeats 4000000
namespace Vx
open PySem PySem.Spec PyProof.Rows L2
local macro_rules | `(tactic| walk_at "cl") => `(tactic| first | assumption | exact Bz.mono (Bz.mul (by assumption) (by assumption)) (by decide) | rfl | omega | exact sz_of 0 rfl (by decide) | exact sz_of 1 rfl (by decide) | exact sz_of 2 rfl (by decide) | exact sz_of 3 rfl (by decide) | exact cmulx (by assumption) (by assumption) (by decide) | exact Bz.mono (Bz.mul (by assumption) (by assumption)) (by decide) | decide)
local macro_rules | `(tactic| walk_at "ex") => `(tactic| ((show Exists _); first | apply @Exists.intro V | apply @Exists.intro Int | apply @Exists.intro Addr | apply @Exists.intro (List V) | apply @Exists.intro Nat | apply @Exists.intro Str | apply @Exists.intro Bool | apply @Exists.intro (Option V) | apply @Exists.intro String | apply @Exists.intro Rat | apply @Exists.intro (List Rat)))
local macro_rules | `(tactic| walk_at "rd") => `(tactic| ((repeat (first | (walk_at "ex") | (apply And.intro; (focus (walk_at "cl"))))); (try dsimp only [])))
local macro_rules | `(tactic| walk_at "r0") => `(tactic| (repeat (first | (walk_at "ex") | (apply And.intro; (focus (walk_at "cl"))))))

section
variable {P : Program} {w : World} {K : PySem.W.Frag} {mg : Str → Option Value} {base : Heap}
/-- whole_product -/
def spWProd (K : PySem.W.Frag) : Sp := fun vs H Q _ => ∃ (l1 l2 : Addr) (ns ms : List Int) (a b : Nat), vs = [.ref l1, .ref l2] ∧ SqL K H l1 (ns.map V.int) ∧ SqL K H l2 (ms.map V.int) ∧ (∀ n ∈ ns, Bz a n) ∧ (∀ m ∈ ms, Bz b m) ∧ a + b ≤ 10000000 ∧ ns.length < 1000 ∧ ms.length < 1000 ∧
  ∀ (p : Addr) (rs : List Int) (H' : Hp), H p = none → Same H H' → H' p = some (.lst (rs.map V.int)) → rs.length = ns.length + ms.length → (∀ x, ev (toR rs) x = ev (toR ns) x * ev (toR ms) x) → (∀ r ∈ rs, Bz (a + b + 10) r) → Q (.ref p) H'
end
section
variable {P : Program} {w : World} {K : PySem.W.Frag} {mg : Str → Option Value} {base : Heap}
theorem toR_scale {ns : List Int} {qs : List Rat} {D : Rat} (h : ns.map (fun (n : Int) => (n : Rat)) = qs.map (D * ·)) (x : Rat) : ev (toR ns) x = D * ev qs x := by
  unfold toR
  rw [h, ev_scale]
/-- times -/
def bTimes (l1 b1 l2 b2 : Nat) : Nat := (l1 + 1) * b1 + (l2 + 1) * b2 + 12
def spTimes (K : PySem.W.Frag) : Sp := fun vs H Q _ => ∃ (x y : V) (ps qs : List Rat) (b1 b2 : Nat), vs = [x, y] ∧ RwT K H x ps ∧ RwT K H y qs ∧ Qs b1 ps ∧ Qs b2 qs ∧ ps.length < 400 ∧ qs.length < 400 ∧ bTimes ps.length b1 qs.length b2 ≤ 8000 ∧
  ∀ v r H', Same H H' → RwT K H' v r → Tr r → (∀ z, ev r z = ev ps z * ev qs z) → Qs (bTimes ps.length b1 qs.length b2) r → r.length ≤ ps.length + qs.length → Q v H'
/-- worth_of -/
def bWorth (l b c : Nat) : Nat := l * (b + c + 1) + 1
def spWorth (K : PySem.W.Frag) : Sp := fun vs H Q _ => ∃ (x y : V) (qs : List Rat) (z : Rat) (b c : Nat), vs = [x, y] ∧ RwT K H x qs ∧ FrT K H y z ∧ Qs b qs ∧ Qz c z ∧ qs.length < 400 ∧ bWorth qs.length b c + b + c ≤ 3900 ∧
  ∀ v H', Same H H' → FrT K H' v (ev qs z) → Qz (bWorth qs.length b c) (ev qs z) → Q v H'
end

end Vx
-- pyl
set_option Elab.async false
set_option linter.all false
set_option maxRecDepth 100000
set_option maxHeartbeats 4000000
namespace Vx
open PySem PySem.Spec PyProof.Rows L2
local macro_rules | `(tactic| walk_at "cl") => `(tactic| first | rfl | assumption | omega | exact sz_of 0 rfl (by decide) | exact sz_of 1 rfl (by decide) | exact sz_of 2 rfl (by decide) | exact sz_of 3 rfl (by decide) | exact cmulx (by assumption) (by assumption) (by decide) | exact Bz.mono (Bz.mul (by assumption) (by assumption)) (by decide) | decide)
local macro_rules | `(tactic| walk_at "ex") => `(tactic| ((show Exists _); first | apply @Exists.intro V | apply @Exists.intro Int | apply @Exists.intro Addr | apply @Exists.intro (List V) | apply @Exists.intro Nat | apply @Exists.intro Str | apply @Exists.intro Bool | apply @Exists.intro (Option V) | apply @Exists.intro String | apply @Exists.intro Rat | apply @Exists.intro (List Rat)))
local macro_rules | `(tactic| walk_at "rd") => `(tactic| ((repeat (first | (walk_at "ex") | (apply And.intro; (focus (walk_at "cl"))))); (try dsimp only [])))
local macro_rules | `(tactic| walk_at "r0") => `(tactic| (repeat (first | (walk_at "ex") | (apply And.intro; (focus (walk_at "cl"))))))

section
variable {P : Program} {w : World} {K : PySem.W.Frag} {mg : Str → Option Value} {base : Heap}
def spIsFr (K : PySem.W.Frag) : Sp := fun vs H Q _ => ∃ (x : V) (q : Rat), vs = [x] ∧ FrT K H x q ∧ Q (.bl true) H
theorem rat_gcd (q : Rat) : (decide (0 < (q.den : Int)) && ((q.num.natAbs.gcd (q.den : Int).natAbs : Nat) : Int) == 1) = true := by
  have h1 := q.den_nz
  have h2 : q.num.natAbs.gcd q.den = 1 := q.reduced
  rw [Int.natAbs_natCast, h2]
  simp
  omega
theorem frt_low {X : Cx} {pins : List (Addr × Obj)} {σ : L2.St} {H : Hp} {s : Shared} {x : V} {q : Rat} (I : Inv X pins σ H s) (h : FrT X.K H x q) : ∃ (a : Addr) (k1 k2 : Tok), x = .ref a ∧ s.heap.IsTuple a #[.int q.num k1, .int q.den k2] := by
  obtain ⟨a, rfl, hs⟩ := h
  obtain ⟨its, rv, p, _⟩ := I.tuple hs
  obtain ⟨u, v, rfl, ⟨k1, rfl⟩, ⟨k2, rfl⟩⟩ := vals2 rv
  exact ⟨a, k1, k2, rfl, p⟩
theorem d_is_fraction (W : FunIn K mg "is_fraction" s_is_fraction) (Ww : FunIn K mg "is_whole" s_is_whole) (T : Blt mg) : Df P w K mg base "is_fraction" 33 ["value"] (spIsFr K) := by
  obtain ⟨f, fd, F, hm⟩ := W
  obtain ⟨fw, fdw, Fw, hmw⟩ := Ww
  have bW : Binds K fdw ["value"] [] := Fw.binds fun _ _ _ _ _ _ us hl => match us, hl with | [_], _ => rfl
  refine ⟨f, fd, ⟨fun vs H Q E h => ?_, fun A outer s H args us vs Q E hr e0 hbd r h => ?_⟩, hm, F.kp, F.binds fun _ _ _ _ _ _ us hl => match us, hl with | [_], _ => rfl⟩
  · obtain ⟨x, q, rfl, _⟩ := h
    rfl
  · obtain ⟨x, q, rfl, ⟨a, rfl, hs⟩, hq⟩ := h
    obtain ⟨u, rfl, ru⟩ := vals1 r
    cases ru
    have M : L2.Mod K mg s.heap := mod_keeps e0.mod fun b o e => (e0.bs b o e).1
    obtain ⟨k1, k2, hT⟩ : ∃ k1 k2 : Tok, s.heap.IsTuple a #[.int q.num k1, .int q.den k2] := by
      rcases hs with hs | ⟨o, its, n, hk, hc, hd, hz, rv⟩
      · obtain ⟨_, its, rv, p⟩ := hs.ok e0.hok
        obtain ⟨u, v, rfl, ⟨k1, rfl⟩, ⟨k2, rfl⟩⟩ := vals2 rv
        exact ⟨k1, k2, p⟩
      · obtain ⟨u, v, e, ⟨k1, rfl⟩, ⟨k2, rfl⟩⟩ := vals2 rv
        refine ⟨k1, k2, o, M.kin _ _ hk, hc, n, ?_⟩
        rw [hd]
        have : its = #[Value.int q.num k1, Value.int q.den k2] := by
          rw [← Array.toList_inj]
          exact e
        rw [this]
    refine codeAny_mono (lw_frac F Fw hmw T M hT hr.hd (by have := hr.dp; omega) hbd fun s v k => bW s [v] k rfl) fun r s' hq' => ?_
    obtain ⟨rfl, h', tk, rfl, k⟩ := hq'
    rw [rat_gcd]
    exact ⟨.bl true, H, rfl, e0.bare, Un.kept k, e0.hok.kept k, rfl, hq⟩
end
section
variable {P : Program} {w : World} {K : PySem.W.Frag} {mg : Str → Option Value} {base : Heap}
/-- a row: the last number is not 0 -/
def spIsRow (K : PySem.W.Frag) (tb : Addr) : Sp := fun vs H Q _ => ∃ (x : V) (qs : List Rat), vs = [x] ∧ RwT K H x qs ∧ Tr qs ∧ H tb = some (tabX tb) ∧ ∀ H', Same H H' → Q (.bl true) H'
theorem sc_is_row : FnScope ["value"] ["value"] (defScope s_is_row) := ⟨rfl, rfl, rfl, by decide +kernel, rfl, by decide +kernel, by decide +kernel⟩
def EhRow (K : PySem.W.Frag) (tb : Addr) (H : Hp) (xs : List V) (bs : List Bool) : Prop := H tb = some (tabX tb) ∧ bs = List.replicate xs.length true ∧ ∀ x ∈ xs, ∃ q, FrT K H x q
theorem d_is_row {c tb aNIL : Addr} (W : FunC K mg "is_row" s_is_row c tb) (WF : FunIn K mg "is_fraction" s_is_fraction) (Ww : FunIn K mg "is_whole" s_is_whole) (T : Blt mg) (hNIL : NilC K mg aNIL) (TB : GxR.TabB base mg c tb) (hPn : K.lookup tb = none) :
    Df P w K mg base "is_row" 2 ["value"] (spIsRow K tb) := by
  obtain ⟨f, oc, od, kV, doc, pm, an, ct, osl, lk, hcd, hkp, hm⟩ := W.ex
  obtain ⟨fF, fdF, FF, hmF⟩ := WF
  obtain ⟨fw, fdw, Fw, hmw⟩ := Ww
  have bW : Binds K fdw ["value"] [] := Fw.binds fun _ _ _ _ _ _ us hl => match us, hl with | [_], _ => rfl
  have bF : Binds K fdF ["value"] [] := FF.binds fun _ _ _ _ _ _ us hl => match us, hl with | [_], _ => rfl
  refine ⟨f, _, (fn_of lk hcd sc_is_row (fun vs H Q E h => ?_) fun A outer s H vs Q E hr h => ?_ : FnOk P w K mg base CX0 2 f _ ["value"] (spIsRow K tb)), hm, hkp, .all fun us hl => match us, hl with | [_], _ => rfl⟩
  · obtain ⟨x, qs, rfl, _⟩ := h
    rfl
  · obtain ⟨x, qs, rfl, ⟨a, us, rfl, ha, hA⟩, ht, htb, q⟩ := h
    have nd := sc_is_row.nd
    have hL := hA.length
    have hrow : RwT K H (.ref a) qs := ⟨a, us, rfl, ha, hA⟩
    refine ⟨_, (pss_cons (ps_if (pt_cmpR op_isNotTy (pe_callTy call_typeT (by rfl) T.n_type (by decide +kernel) (pa_cons (pv 0) pa_nil)) (pe_bltn (by rfl) T.n_tuple (by rfl) (v := .ty "tuple") rfl) (nomark _)) (pss_one (ps_ret pe_bl)) pss_nil)
      (pss_one (ps_ret (pe_and (pe_allT (c := c) (P := tb) (EH := EhRow K tb) hr (by rfl) T.n_all (by decide +kernel) TB rfl ?S (pv 0) ?hel (by intro _; rfl)) (pe_one (pe_or (pe_cmpR (op_eqD (hu64 hr)) (pv 0) (pe_tup pa_nil) (nomark _)) (pe_one (pe_cmpR (op_neD (hu64 hr)) (pe_ix ix_tup (pv 0) (pe_un un_neg pe_int) (fun _ _ => rfl)) (pe_glob (v := .ref aNIL) rfl hNIL.g rfl) (nomark _))))))))), ?_⟩
    case S =>
      exact ⟨rfl, rfl, by decide, rfl, rfl, fun y hy e => by
        simp only [List.mem_cons, List.not_mem_nil, or_false] at hy
        rcases hy with rfl | rfl | rfl <;> cases e⟩
    case hel =>
      intro pins σ H1 s1 xs its bs I rv hE
      obtain ⟨htb1, rfl, hfr⟩ := hE
      intro cenv A' E' j u b s₂ m₂ hsc hgl hbl hhd hdp hun hk hj hb hn hmu
      obtain ⟨hj1, hj2⟩ := List.getElem?_eq_some_iff.mp hb
      have hb' : b = true := by
        rw [List.getElem_replicate] at hj2
        exact hj2.symm
      subst hb'
      rw [List.length_replicate] at hj1
      have hx : xs[j]? = some xs[j] := List.getElem?_eq_getElem hj1
      obtain ⟨q0, hq0⟩ := hfr _ (List.mem_of_getElem? hx)
      obtain ⟨a', k1, k2, ea, hT⟩ := frt_low I hq0
      obtain ⟨u', hu', ru⟩ := rv.get hx
      rw [hj] at hu'
      cases hu'
      rw [ea] at ru
      obtain rfl : u = Value.ref a' := ru
      obtain ⟨ps, hps, _⟩ := inv_tab1 I htb1
      have naP : a' ≠ tb := fun z => by
        obtain ⟨o, ho, hc, n, hd⟩ := hT
        rw [z, hps] at ho
        cases ho
        cases hd
      have hT2 : s₂.heap.IsTuple a' #[.int q0.num k1, .int q0.den k2] := by
        obtain ⟨o, ho, r⟩ := hT
        exact ⟨o, hk _ _ naP ho, r⟩
      have M1 : L2.Mod K mg s1.heap := mod_keeps I.ok.mod I.bk
      have M2 : L2.Mod K mg s₂.heap := mod_but M1 hPn hps hk
      have hkd : cenv.scope.kind = .function := by rw [hsc]
      have hl1 : cenv.kindOf "is_fraction" = some .globalImplicit := by
        unfold Env.kindOf
        rw [hsc]
        rfl
      have hl2 : cenv.kindOf "number" = some .local := by
        unfold Env.kindOf
        rw [hsc]
        rfl
      refine wpAny_Call_Name_kw (Calls.Name_function_global hkd hl1 (Calls.loadGlobal_global (mg := mg) (by rw [hgl]; exact M2.glob) hmF ?_))
      refine PySem.W.callWith_K (h₀ := s₂.heap) M2.kin FF.kp (Calls.spliced_cons (wpAny_Name (wpAny_loadName_local hkd hl2 hn hmu (Calls.spliced_nil ⟨M2.kin, ?_⟩))))
      have hdp' : A'.depth + 1 < recursionLimit := by
        have h1 : A'.depth ≤ (A.deeper (envOfC "is_row" (defScope s_is_row) s.heap.objs.size f (.ref c))).depth + 1 := hdp
        have h2 := hr.dp
        omega
      refine wpAny_call (codeAny_mono (lw_frac FF Fw hmw T M2 hT2 hhd hdp' (bF s₂ [.ref a'] M2.kin rfl) fun s v k => bW s [v] k rfl) fun r s3 hr3 => ?_)
      obtain ⟨rfl, hK⟩ := hr3
      show Value.bool _ = Value.bool true ∧ Keeps s₂ s3
      rw [rat_gcd]
      exact ⟨rfl, hK⟩
    walk_at "rd"
    refine ⟨List.replicate us.length true, rfl, ha, htb, List.length_replicate, ⟨htb, rfl, fun x hx => ?_⟩, true, congrArg V.bl (by simp), ?_⟩
    · obtain ⟨i, hi⟩ := List.mem_iff_getElem?.mp hx
      obtain ⟨r, _, hr⟩ := hA.get hi
      exact ⟨r, hr⟩
    rw [if_pos rfl]
    walk_at "rd"
    intro p hp
    have s1 := same_new (o := .tup []) hp
    have e1 : SqT K (upd H p (.tup [])) p [] := SqT.of upd_same
    have htb1 := s1 _ _ htb
    generalize upd H p (.tup []) = H1 at s1 e1 htb1
    have hrow1 := hrow.mono (same_t s1)
    refine rEqD_rw hrow1 (rwt_nil e1) ⟨_, rfl, ?_⟩
    refine tif (fun hq => q H1 s1) (fun hq => ?_)
    obtain ⟨r, hr1⟩ : ∃ r, qs[qs.length - 1]? = some r := ⟨_, List.getElem?_eq_getElem (by have := List.length_pos_iff.mpr hq; omega)⟩
    obtain ⟨u, hu, hfr⟩ := hA.get' hr1
    have hpos : 0 < qs.length := List.length_pos_iff.mpr hq
    have hr0 : r ≠ 0 := by
      have h1 := ht hq
      rw [List.getLast_eq_getElem] at h1
      rw [List.getElem?_eq_getElem (by omega)] at hr1
      rw [← Option.some.inj hr1]
      exact h1
    have hat : atI us (-1) = some u := by
      unfold atI ixN
      rw [if_neg (by decide), hL]
      show Option.bind (if _ then _ else _) _ = _
      rw [if_pos (by omega)]
      show us[_]? = _
      rw [← hu]
      congr 1
      omega
    have ha1 := same_seqT s1 ha
    walk_at "rd"
    refine rNeD_fr (hfr.mono (same_t s1)) (hNIL.fr H1) ?_
    rw [decide_eq_false hr0]
    exact q H1 s1
/-- check_row -/
def spCkRow (K : PySem.W.Frag) (tb : Addr) : Sp := fun vs H Q _ => ∃ (x : V) (qs : List Rat), vs = [x] ∧ RwT K H x qs ∧ Tr qs ∧ H tb = some (tabX tb) ∧ ∀ H', Same H H' → Q .non H'
theorem sc_check_row : FnScope ["given"] ["given"] (defScope s_check_row) := ⟨rfl, rfl, rfl, by decide +kernel, rfl, by decide +kernel, by decide +kernel⟩
theorem d_check_row {tb : Addr} (W : FunIn K mg "check_row" s_check_row) (Dis_row : Df P w K mg base "is_row" 2 ["value"] (spIsRow K tb)) : Df P w K mg base "check_row" 35 ["given"] (spCkRow K tb) := by
  obtain ⟨f, fd, F, hm⟩ := W
  refine ⟨f, fd, F.ok sc_check_row (fun vs H Q E h => ?_) (fun cdv A outer s H vs Q E hr h => ?_), hm, F.kp, F.binds fun _ _ _ _ _ _ us hl => match us, hl with | [_], _ => rfl⟩
  · obtain ⟨x, qs, rfl, _⟩ := h
    rfl
  · obtain ⟨x, qs, rfl, hx, ht, htb, q⟩ := h
    refine ⟨_, (pss_one (ps_if (pt_not (pt_val (pe_d Dis_row (hr.mono (by decide)) rfl (pa_cons (pv 0) pa_nil)))) (pss_one ps_absurd) pss_nil)), ?_⟩
    walk_at "rd"
    intro H' s1
    walk_at "rd"
    exact q H' s1
def spCkFr (K : PySem.W.Frag) : Sp := fun vs H Q _ => ∃ (x : V) (q : Rat), vs = [x] ∧ FrT K H x q ∧ Q .non H
end
section
variable {P : Program} {w : World} {K : PySem.W.Frag} {mg : Str → Option Value} {base : Heap}
/-- a promise over two rows that are checked first -/
def spCk (K : PySem.W.Frag) (tb : Addr) (sp : Sp) : Sp := fun vs H Q E => ∃ (x y : V) (ps qs : List Rat), vs = [x, y] ∧ RwT K H x ps ∧ RwT K H y qs ∧ Tr ps ∧ Tr qs ∧ H tb = some (tabX tb) ∧ ∀ H', Same H H' → sp [x, y] H' Q E
def spCkW (K : PySem.W.Frag) (tb : Addr) (sp : Sp) : Sp := fun vs H Q E => ∃ (x y : V) (ps : List Rat) (z : Rat), vs = [x, y] ∧ RwT K H x ps ∧ FrT K H y z ∧ Tr ps ∧ H tb = some (tabX tb) ∧ ∀ H', Same H H' → sp [x, y] H' Q E
end

end Vx
-- pyl
set_option Elab.async false
set_option linter.all false
set_option maxRecDepth 100000
set_option maxHeartbeats 4000000
namespace Vx
open PySem PySem.Spec PyProof.Rows L2
local macro_rules | `(tactic| walk_at "cl") => `(tactic| first | assumption | exact Bz.mono (Bz.mul (by assumption) (by assumption)) (by decide) | rfl | omega | exact sz_of 0 rfl (by decide) | exact sz_of 1 rfl (by decide) | exact sz_of 2 rfl (by decide) | exact sz_of 3 rfl (by decide) | exact cmuly (by assumption) (by assumption) (by decide) | exact Bz.mono (Bz.mul (by assumption) (by assumption)) (by decide) | decide)
local macro_rules | `(tactic| walk_at "ex") => `(tactic| ((show Exists _); first | apply @Exists.intro V | apply @Exists.intro Int | apply @Exists.intro Addr | apply @Exists.intro (List V) | apply @Exists.intro Nat | apply @Exists.intro Str | apply @Exists.intro Bool | apply @Exists.intro (Option V) | apply @Exists.intro String | apply @Exists.intro Rat | apply @Exists.intro (List Rat)))
local macro_rules | `(tactic| walk_at "rd") => `(tactic| ((repeat (first | (walk_at "ex") | (apply And.intro; (focus (walk_at "cl"))))); (try dsimp only [])))
local macro_rules | `(tactic| walk_at "r0") => `(tactic| (repeat (first | (walk_at "ex") | (apply And.intro; (focus (walk_at "cl"))))))
theorem toR_concat (l : List Int) (c : Int) (x : Rat) : ev (toR (l ++ [c])) x = ev (toR l) x + (c : Rat) * x ^ l.length := by
  unfold toR
  rw [List.map_append, ev_append, List.length_map]
  show _ + x ^ l.length * ((c : Rat) + x * 0) = _
  grind
theorem toR_smul (g : Int) (l : List Int) (x : Rat) : ev (toR (l.map (g * ·))) x = (g : Rat) * ev (toR l) x := by
  have e : toR (l.map (g * ·)) = (toR l).map ((g : Rat) * ·) := by
    unfold toR
    rw [List.map_map, List.map_map]
    refine List.map_congr_left fun n _ => ?_
    show ((g * n : Int) : Rat) = (g : Rat) * (n : Rat)
    push_cast
    rfl
  rw [e, ev_scale]
theorem split_id {S N Q E top P R0 last g t A : Rat} (h : S * N = Q * (E + top * P) + (R0 + last * (A * P))) (hg : g * last = t * top) :
    S * g * N = (g * Q + t * A) * (E + top * P) + (g * R0 - t * A * E) := by
  have e : S * g * N = g * (S * N) := by grind
  rw [e, h]
  have e2 : g * (last * (A * P)) = t * top * (A * P) := by rw [← hg]; grind
  grind
theorem gcd_parts (last : Int) {top : Int} (h : top ≠ 0) : ∃ g t G : Int, ((last.natAbs.gcd top.natAbs : Nat) : Int) = G ∧ 0 < G ∧ top.fdiv G = g ∧ last.fdiv G = t ∧ top = g * G ∧ last = t * G ∧ g ≠ 0 ∧ G.natAbs ≤ top.natAbs ∧ g.natAbs ≤ top.natAbs ∧ t.natAbs ≤ last.natAbs := by
  have hp : 0 < last.natAbs.gcd top.natAbs := Nat.gcd_pos_of_pos_right _ (by omega)
  have d1 : ((last.natAbs.gcd top.natAbs : Nat) : Int) ∣ top := by
    exact Int.ofNat_dvd_left.mpr (Nat.gcd_dvd_right _ _)
  have d2 : ((last.natAbs.gcd top.natAbs : Nat) : Int) ∣ last := by
    exact Int.ofNat_dvd_left.mpr (Nat.gcd_dvd_left _ _)
  have le : last.natAbs.gcd top.natAbs ≤ top.natAbs := Nat.gcd_le_right _ (by omega)
  generalize last.natAbs.gcd top.natAbs = n at *
  obtain ⟨g, rfl⟩ := d1
  obtain ⟨t, rfl⟩ := d2
  refine ⟨g, t, n, rfl, by omega, ?_, ?_, Int.mul_comm _ _, Int.mul_comm _ _, fun z => h (by rw [z, Int.mul_zero]), by omega, ?_, ?_⟩
  · exact Int.mul_fdiv_cancel_left _ (by omega)
  · exact Int.mul_fdiv_cancel_left _ (by omega)
  · rw [Int.natAbs_mul]
    exact Nat.le_mul_of_pos_left _ (by omega)
  · rw [Int.natAbs_mul]
    exact Nat.le_mul_of_pos_left _ (by omega)
theorem le_bz {i j : Int} {c : Nat} (h : i.natAbs ≤ j.natAbs) (hj : Bz c j) : Bz c i := Nat.lt_of_le_of_lt h hj
theorem acc_map {xs : List Int} {g : Int} {acc : List V} (hl : acc.length = (xs.map V.int).length) (hel : ∀ (i : Nat) y, acc[i]? = some y → ∃ c, xs[i]? = some c ∧ y = .int (g * c)) : acc = (xs.map (g * ·)).map V.int := by
  rw [List.length_map] at hl
  refine List.ext_getElem? fun i => ?_
  by_cases hi : i < acc.length
  · obtain ⟨c, hc, hv⟩ := hel i _ (List.getElem?_eq_getElem hi)
    rw [List.getElem?_eq_getElem hi, hv, List.getElem?_map, List.getElem?_map, hc]
    rfl
  · rw [List.getElem?_eq_none (by omega), List.getElem?_eq_none (by simp only [List.length_map]; omega)]
theorem ixn_nat {n k : Nat} (h : k < n) : ixN n (k : Int) = some k := by
  unfold ixN
  rw [if_pos (by omega), if_pos (by omega)]
  exact congrArg some (by omega)
/-- the state of a division: after i turns -/
structure WsI (H : Hp) (ns es : List Int) (top : Int) (b m many : Nat) (r q : Addr) (i : Nat) (rs qs : List Int) (S : Int) (H' : Hp) : Prop where
  sm : Same H H'
  hr : H r = none
  hq : H q = none
  rq : r ≠ q
  er : H' r = some (.lst (rs.map V.int))
  eq : H' q = some (.lst (qs.map V.int))
  lr : rs.length + i = ns.length
  lq : qs.length = many
  S0 : S ≠ 0
  id : ∀ x, (S : Rat) * ev (toR ns) x = ev (toR qs) x * ev (toR (es ++ [top])) x + ev (toR rs) x
  z : ∀ k, k + i < many → qs[k]? = some 0
  br : ∀ k ∈ rs, Bz (b + i * (m + 1)) k
  bq : ∀ k ∈ qs, Bz (b + i * (m + 1)) k
  bS : Bz (i * (m + 1) + 1) S
section
variable {P : Program} {w : World} {K : PySem.W.Frag} {mg : Str → Option Value} {base : Heap}
/-- whole_split -/
def spWSplit (K : PySem.W.Frag) : Sp := fun vs H Q _ => ∃ (l1 l2 : Addr) (ns es : List Int) (top : Int) (b m N : Nat), vs = [.ref l1, .ref l2] ∧ SqL K H l1 (ns.map V.int) ∧ SqL K H l2 ((es ++ [top]).map V.int) ∧ top ≠ 0 ∧ (∀ n ∈ ns, Bz b n) ∧ (∀ d ∈ es ++ [top], Bz m d) ∧ 0 < b ∧ m ≤ 900000 ∧ b + N * (m + 1) + m ≤ 5000000 ∧ ns.length ≤ es.length + N ∧ ns.length < 500 ∧ es.length < 500 ∧
  ∀ (t q r : Addr) (qs rs : List Int) (S : Int) (H' : Hp), Same H H' → SqT K H' t [.ref q, .ref r, .int S] → H' q = some (.lst (qs.map V.int)) → H' r = some (.lst (rs.map V.int)) → S ≠ 0 →
    (∀ x, (S : Rat) * ev (toR ns) x = ev (toR qs) x * ev (toR (es ++ [top])) x + ev (toR rs) x) → rs.length ≤ es.length → rs.length ≤ ns.length → qs.length ≤ ns.length →
    (∀ k ∈ qs, Bz (b + N * (m + 1)) k) → (∀ k ∈ rs, Bz (b + N * (m + 1)) k) → Bz (N * (m + 1) + 1) S → Q (.ref t) H'
theorem sc_whole_split : FnScope ["numbers", "by", "rest", "top", "many", "quotient", "scale", "at", "last", "part", "i", "grow", "take", "x"] ["numbers", "by"] (defScope s_whole_split) := ⟨rfl, rfl, rfl, by decide +kernel, rfl, by decide +kernel, by decide +kernel⟩
theorem d_whole_split (W : FunIn K mg "whole_split" s_whole_split) (T : Blt mg) (sy : Sys base) (hP : P.given.tree = none) : Df P w K mg base "whole_split" 33 ["numbers", "by"] (spWSplit K) := by
  obtain ⟨f, fd, F, hm⟩ := W
  refine ⟨f, fd, F.ok sc_whole_split (fun vs H Q E h => ?_) (fun cdv A outer s H vs Q E hr h => ?_), hm, F.kp, F.binds fun _ _ _ _ _ _ us hl => match us, hl with | [_, _], _ => rfl⟩
  · obtain ⟨l1, l2, ns, es, top, b, m, N, rfl, _⟩ := h
    rfl
  · obtain ⟨l1, l2, ns, es, top, b, m, N, rfl, h1, h2, htop, hzb, hzm, hb0, hm9, hsz, hN, ln, le, q⟩ := h
    have nd := sc_whole_split.nd
    have h1' : SqL K H l1 (ns.map V.int) ∨ SqT K H l1 (ns.map V.int) := Or.inl h1
    have h2' : SqL K H l2 ((es ++ [top]).map V.int) ∨ SqT K H l2 ((es ++ [top]).map V.int) := Or.inl h2
    have htp : atI ((es ++ [top]).map V.int) (-1) = some (V.int top) := by
      rw [List.map_append]
      exact atI_last _ _
    refine ⟨_, (pss_cons (ps_set (i := 2) nd rfl (Or.inl rfl) (pe_callTy call_list_of (by rfl) T.n_list (by decide +kernel) (pa_cons (pv 0) pa_nil)))
        (pss_cons (ps_set (i := 3) nd rfl (Or.inl rfl) (pe_ix ix_list (pv 1) (pe_un un_neg pe_int) (fun _ _ => rfl)))
        (pss_cons (ps_set (i := 4) nd rfl (Or.inl rfl) (pe_callB (call_max2 rfl) (by rfl) T.n_max (by decide +kernel) (pa_cons pe_int (pa_cons (pe_op op_add (pe_op op_sub (pe_callB call_len_seq (by rfl) T.n_len (by decide +kernel) (pa_cons (pv 0) pa_nil)) (pe_callB call_len_seq (by rfl) T.n_len (by decide +kernel) (pa_cons (pv 1) pa_nil))) pe_int) pa_nil))))
        (pss_cons (ps_set (i := 5) nd rfl (Or.inl rfl) (pe_op op_rep (pe_lst (pa_cons pe_int pa_nil)) (pv 4)))
        (pss_cons (ps_set (i := 6) nd rfl (Or.inl rfl) pe_int)
        (pss_cons (ps_for PassesOwn.never rfl (pi_revR (by rfl) T.n_reversed (prg_1 (by rfl) T.n_range (pv 4))) (pg_name (i := 7) nd rfl (Or.inl rfl) (Or.inr rfl)) (pss_cons (ps_set (i := 8) nd rfl (Or.inl rfl) (pe_bm0 PySem.F.plainAttrs_list PySem.F.slot_list_pop PySem.F.type_list_pop mt_pop (pv 2)))
        (pss_cons (ps_if (pt_cmpR op_eq (pv 8) pe_int (nomark _)) (pss_one ps_continue) pss_nil)
        (pss_cons (ps_set (i := 9) nd rfl (Or.inl rfl) (pe_callBfun cr_gcd (by rfl) T.g_gcd (pa_cons (pv 8) (pa_cons (pv 3) pa_nil))))
        (pss_cons (ps_asg (pe_tup (pa_cons (pe_op (op_fdivY sy hr hP ⟨_, _, rfl, rfl, rfl, rfl, rfl⟩) (pv 3) (pv 9)) (pa_cons (pe_op (op_fdivY sy hr hP ⟨_, _, rfl, rfl, rfl, rfl, rfl⟩) (pv 8) (pv 9)) pa_nil))) (pg_tup rfl (pgs_cons (pg_name (i := 11) nd rfl (Or.inr rfl)) (pgs_cons (pg_name (i := 12) nd rfl (Or.inl rfl) (Or.inr rfl)) pgs_nil))))
        (pss_cons (ps_setLc (i := 2) (own := [("x", 13)]) rfl nd rfl rfl (sw_true rfl rfl rfl (by decide +kernel)) (pi_list (pv 2)) (blkOk_by (own := [("x", 13)]) (N := ["numbers", "by", "rest", "top", "many", "quotient", "scale", "at", "last", "part", "i", "grow", "take", "x"]) (sc := defScope s_whole_split) (by decide +kernel)) (fun _ _ _ _ _ => (pg_name (i := 13) nd rfl (Or.inl rfl) (Or.inr rfl))) (fun _ _ _ _ _ => pts_nil) (fun _ _ _ _ _ => (pe_op op_mulX (pv 11) (pv 13))))
        (pss_cons (ps_setLc (i := 5) (own := [("x", 13)]) rfl nd rfl rfl (sw_true rfl rfl rfl (by decide +kernel)) (pi_list (pv 5)) (blkOk_by (own := [("x", 13)]) (N := ["numbers", "by", "rest", "top", "many", "quotient", "scale", "at", "last", "part", "i", "grow", "take", "x"]) (sc := defScope s_whole_split) (by decide +kernel)) (fun _ _ _ _ _ => (pg_name (i := 13) nd rfl (Or.inl rfl) (Or.inr rfl))) (fun _ _ _ _ _ => pts_nil) (fun _ _ _ _ _ => (pe_op op_mulX (pv 11) (pv 13))))
        (pss_cons (ps_asg (pv 12) (pg_sub (pv 5) (pv 7) set_list))
        (pss_cons (ps_aug (i := 6) nd rfl (Or.inl rfl) (pv 11) ip_mulX)
        (pss_one (ps_for PassesOwn.never rfl (pi_range1 rfl T.n_range (pa_cons (pe_op op_sub (pe_callB call_len_seq (by rfl) T.n_len (by decide +kernel) (pa_cons (pv 1) pa_nil)) pe_int) pa_nil)) (pg_name (i := 10) nd rfl (Or.inl rfl) (Or.inr rfl)) (pss_one (ps_augS (pv 2) (pe_op op_add (pv 7) (pv 10)) get_list (pe_op op_mulX (pv 12) (pe_ix ix_list (pv 1) (pv 10) (fun _ _ => rfl))) ip_sub set_list)))))))))))))
        (pss_one (ps_ret (pe_tup (pa_cons (pv 5) (pa_cons (pv 2) (pa_cons (pv 6) pa_nil)))))))))))), ?_⟩
    walk_at "rd"
    intro r hr0
    have s0 := same_new (o := .lst (ns.map V.int)) hr0
    have e0 : upd H r (.lst (ns.map V.int)) r = some (.lst (ns.map V.int)) := upd_same
    generalize upd H r (.lst (ns.map V.int)) = H0 at s0 e0
    have h1' : SqL K H0 l1 (ns.map V.int) ∨ SqT K H0 l1 (ns.map V.int) := Or.inl (s0.seq h1)
    have h2' : SqL K H0 l2 ((es ++ [top]).map V.int) ∨ SqT K H0 l2 ((es ++ [top]).map V.int) := Or.inl (s0.seq h2)
    have h2q : SqL K H0 l2 ((es ++ [top]).map V.int) := s0.seq h2
    obtain ⟨many, hmany, hmn⟩ : ∃ many : Nat, (if ((ns.map V.int).length : Int) - (((es ++ [top]).map V.int).length : Int) + 1 > 0 then ((ns.map V.int).length : Int) - (((es ++ [top]).map V.int).length : Int) + 1 else 0) = (many : Int) ∧ many = ns.length - es.length := by
      refine ⟨ns.length - es.length, ?_, rfl⟩
      rw [List.length_map, List.length_map, List.length_append, List.length_singleton]
      split <;> omega
    walk_at "rd"
    rw [hmany]
    intro p0 hp0
    have sp0 := same_new (o := .lst [V.int 0]) hp0
    have ep0 : upd H0 p0 (.lst [V.int 0]) p0 = some (.lst [V.int 0]) := upd_same
    have ep1 := sp0 _ _ e0
    generalize upd H0 p0 (.lst [V.int 0]) = H1 at sp0 ep0 ep1
    have hmL : [V.int 0].length * ((many : Int)).toNat ≤ sizeLine := by
      show 1 * _ ≤ _
      rw [Int.toNat_natCast, sizeLine_eq]
      omega
    have hm1 : -(2 ^ 63) ≤ (many : Int) := by omega
    have hm2 : (many : Int) < 2 ^ 63 := by omega
    refine ⟨_, rfl, p0, (many : Int), [V.int 0], rfl, rfl, ep0, hm1, hm2, hmL, fun q0 hq0 => ?_⟩
    have ef : (List.replicate (many : Int).toNat [V.int 0]).flatten = ((List.replicate many (0 : Int)).map V.int) := by
      rw [Int.toNat_natCast]
      generalize many = k
      induction k with
      | zero => rfl
      | succ k ih => rw [List.replicate_succ, List.flatten_cons, ih, List.replicate_succ]; rfl
    rw [ef]
    have s1 := (s0.trans sp0).trans (same_new (o := .lst ((List.replicate many (0 : Int)).map V.int)) hq0)
    have rq : r ≠ q0 := fun z => by rw [z, hq0] at ep1; cases ep1
    have e1 : upd H1 q0 (.lst ((List.replicate many (0 : Int)).map V.int)) q0 = some (.lst ((List.replicate many (0 : Int)).map V.int)) := upd_same
    have er : upd H1 q0 (.lst ((List.replicate many (0 : Int)).map V.int)) r = some (.lst (ns.map V.int)) := by rw [upd_ne rq]; exact ep1
    have hqn : H q0 = none := (s0.trans sp0).free hq0
    generalize upd H1 q0 (.lst ((List.replicate many (0 : Int)).map V.int)) = H2 at s1 e1 er
    have I0 : WsI H ns es top b m many r q0 0 ns (List.replicate many 0) 1 H2 := by
      refine ⟨s1, hr0, hqn, rq, er, e1, rfl, List.length_replicate, by decide, fun x => ?_, fun k hk => ?_, fun k hk => ?_, fun k hk => ?_, ?_⟩
      · rw [toR_rep]
        push_cast
        grind
      · rw [List.getElem?_replicate, if_pos (by omega)]
      · rw [Nat.zero_mul]
        exact hzb k hk
      · rw [(List.mem_replicate.mp hk).2, Nat.zero_mul]
        exact Nat.two_pow_pos _
      · rw [Nat.zero_mul]
        exact (by decide : (1 : Int).natAbs < 2 ^ 1)
    clear hm1 hm2 hmL ef er e1 s1 ep1 ep0 sp0 e0 s0
    have hmm : ((many : Int) - 0).toNat = many := by omega
    refine ⟨_, rfl, (many : Int), rfl, by decide, by decide, by omega, by omega, ?_⟩
    rw [hmm]
    refine for_it walk_rangeC (fun i σ H' => ∃ (r q : Addr) (rs qs : List Int) (S : Int) (o7 o8 o9 o10 o11 o12 : Option V), σ = [some (.ref l1), some (.ref l2), some (.ref r), some (.int top), some (.int many), some (.ref q), some (.int S), o7, o8, o9, o10, o11, o12, none] ∧ WsI H ns es top b m many r q i rs qs S H')
      ⟨r, q0, ns, List.replicate many 0, 1, none, none, none, none, none, none, rfl, I0⟩ (fun _ _ _ _ _ => trivial) ?_ ?_
    · rintro i x σ H3' H3 hi ⟨r, q1, rs, qs, S, o7, o8, o9, o10, o11, o12, rfl, I⟩ ⟨rfl, rfl⟩
      obtain ⟨a, ha⟩ : ∃ a, a + i + 1 = many := ⟨many - 1 - i, by omega⟩
      have hx : (0 + (many : Int) - 1 + (i : Int) * -1) = (a : Int) := by omega
      have hx' : (fun i : Nat => V.int (0 + (many : Int) - 1 + (i : Int) * -1)) i = V.int (a : Int) := congrArg V.int hx
      rw [hx']
      have lr := I.lr
      have hmle : es.length + many = ns.length := by omega
      obtain ⟨rs0, last, rfl⟩ : ∃ rs0 last, rs = rs0 ++ [last] := by
        rcases List.eq_nil_or_concat rs with z | ⟨l, c, z⟩
        · rw [z, List.length_nil] at lr
          omega
        · exact ⟨l, c, by simpa using z⟩
      rw [List.length_append, List.length_singleton] at lr
      have l0 : rs0.length = a + es.length := by omega
      have er : H3 r = some (.lst (rs0.map V.int ++ [V.int last])) := by
        have := I.er
        rwa [List.map_append] at this
      have g1 : (rs0.map V.int ++ [V.int last])[(rs0.map V.int ++ [V.int last]).length - 1]? = some (V.int last) := by simp
      have g2 : (rs0.map V.int ++ [V.int last]).dropLast = rs0.map V.int := List.dropLast_concat
      have g3 : tyV K "list" (V.ref r) H3 := Or.inl ⟨rfl, _, SqL.of er⟩
      refine ⟨_, rfl, g3, r, _, _, rfl, rfl, er, g1, ?_⟩
      rw [g2]
      have s4 : Same H (upd H3 r (.lst (rs0.map V.int))) := fun c o e => by rw [upd_ne (ne_of_none e I.hr)]; exact I.sm _ _ e
      have er4 : upd H3 r (.lst (rs0.map V.int)) r = some (.lst (rs0.map V.int)) := upd_same
      have eq4 : upd H3 r (.lst (rs0.map V.int)) q1 = some (.lst (qs.map V.int)) := by rw [upd_ne (Ne.symm I.rq)]; exact I.eq
      generalize upd H3 r (.lst (rs0.map V.int)) = H4 at s4 er4 eq4
      have hid := I.id
      have mle : b + i * (m + 1) ≤ b + (i + 1) * (m + 1) := Nat.add_le_add_left (Nat.mul_le_mul_right _ (Nat.le_succ i)) b
      have mle2 : i * (m + 1) + 1 ≤ (i + 1) * (m + 1) + 1 := Nat.add_le_add_right (Nat.mul_le_mul_right _ (Nat.le_succ i)) 1
      walk_at "rd"
      refine tif (fun hz => ?_) (fun hnz => ?_)
      · refine ⟨r, q1, rs0, qs, S, _, _, o9, o10, o11, o12, rfl, s4, I.hr, I.hq, I.rq, er4, eq4, by omega, I.lq, I.S0, fun x => ?_, fun k hk => I.z k (by omega), fun k hk => (I.br k (List.mem_append_left _ hk)).mono mle, fun k hk => (I.bq k hk).mono mle, I.bS.mono mle2⟩
        have hz0 : last = 0 := V.int.inj hz
        rw [hid, toR_concat rs0 last, hz0]
        push_cast
        grind
      have hl0 : last ≠ 0 := fun z => hnz (congrArg V.int z)
      obtain ⟨g, t, G, hG, hG0, hgq, htq, htg, hlt, hg0, hGle, hgle, htle⟩ := gcd_parts last htop
      have zm : Bz m top := hzm top (by simp)
      have zl : Bz (b + i * (m + 1)) last := I.br last (by simp)
      have zg : Bz m g := le_bz hgle zm
      have zt : Bz (b + i * (m + 1)) t := le_bz htle zl
      have zG : Bz 900000 G := (le_bz hGle zm).mono hm9
      have c1 : CDivY top G := cdivy (by omega) zG (Nat.le_refl _)
      have c2 : CDivY last G := cdivy (by omega) zG (Nat.le_refl _)
      have z1 : b + i * (m + 1) + (m + 1) ≤ b + N * (m + 1) := by
        have := Nat.mul_le_mul_right (m + 1) (show i + 1 ≤ N by omega)
        rw [Nat.add_mul, Nat.one_mul] at this
        omega
      rw [← hG] at c1 c2
      walk_at "rd"
      rw [hG, hgq, htq]
      intro p hp
      have s5 := same_new (o := .tup [V.int g, V.int t]) hp
      have q5 : SqT K (upd H4 p (.tup [V.int g, V.int t])) p [V.int g, V.int t] := SqT.of upd_same
      have er5 := s5 _ _ er4
      have eq5 := s5 _ _ eq4
      have s5' := s4.trans s5
      generalize upd H4 p (.tup [V.int g, V.int t]) = H5 at s5 q5 er5 eq5 s5'
      refine ⟨p, _, rfl, q5, rfl, _, _, rfl, _, _, rfl, rfl, ?_⟩
      have zr0 : ∀ n ∈ rs0, Bz (b + i * (m + 1)) n := fun n hn => I.br n (List.mem_append_left _ hn)
      refine ⟨_, rfl, r, rfl, ⟨_, SqL.of er5⟩, fun l hl => lc_map (walk_list (K := K) (a := r) (xs := rs0.map V.int)) hl (by rw [List.length_map, sizeLine_eq]; omega) (fun i _ v => ∃ c, rs0[i]? = some c ∧ v = .int (g * c)) (fun _ _ _ _ _ h => h) (fun H1 s1 => s1.seq (SqL.of er5)) ?_ ?_⟩
      · rintro j u G1 G2 hj s1 _ ⟨rfl, hu⟩ Fin hF
        rw [List.getElem?_map] at hu
        obtain ⟨c, hc, rfl⟩ := Option.map_eq_some_iff.mp hu
        have cz := zr0 c (List.mem_of_getElem? hc)
        have c3 : CMulX g c := cmuly zg cz (by omega)
        walk_at "rd"
        exact hF _ _ (Same.refl _) ⟨c, hc, rfl⟩
      rintro H6 acc s6 hacc hlen hel
      rw [acc_map hlen hel] at hacc
      clear hel hlen acc
      have eq6 := s6 _ _ eq5
      have s6' := s5'.trans s6
      have hlH : H l = none := s5'.free hl
      refine ⟨_, rfl, q1, rfl, ⟨_, SqL.of eq6⟩, fun l' hl' => lc_map (walk_list (K := K) (a := q1) (xs := qs.map V.int)) hl' (by rw [List.length_map, I.lq, sizeLine_eq]; omega) (fun i _ v => ∃ c, qs[i]? = some c ∧ v = .int (g * c)) (fun _ _ _ _ _ h => h) (fun H1 s1 => s1.seq (SqL.of eq6)) ?_ ?_⟩
      · rintro j u G1 G2 hj s1 _ ⟨rfl, hu⟩ Fin hF
        rw [List.getElem?_map] at hu
        obtain ⟨c, hc, rfl⟩ := Option.map_eq_some_iff.mp hu
        have cz := I.bq c (List.mem_of_getElem? hc)
        have c3 : CMulX g c := cmuly zg cz (by omega)
        walk_at "rd"
        exact hF _ _ (Same.refl _) ⟨c, hc, rfl⟩
      rintro H7 acc s7 hacc2 hlen hel
      rw [acc_map hlen hel] at hacc2
      clear hel hlen acc
      have hacc7 := s7 _ _ hacc
      have s7' := s6'.trans s7
      have hl'H : H l' = none := s6'.free hl'
      have hll : l ≠ l' := fun z => by rw [z, hl'] at hacc; cases hacc
      have lq := I.lq
      have ga : ixN ((qs.map (g * ·)).map V.int).length (a : Int) = some a := ixn_nat (by rw [List.length_map, List.length_map, lq]; omega)
      refine ⟨_, rfl, _, rfl, _, rfl, l', _, _, a, rfl, rfl, hacc2, ga, ?_⟩
      rw [← List.map_set]
      have s8' : Same H (upd H7 l' (.lst (((qs.map (g * ·)).set a t).map V.int))) := fun c o e => by rw [upd_ne (ne_of_none e hl'H)]; exact s7' _ _ e
      have eq8 : upd H7 l' (.lst (((qs.map (g * ·)).set a t).map V.int)) l' = some (.lst (((qs.map (g * ·)).set a t).map V.int)) := upd_same
      have er8 : upd H7 l' (.lst (((qs.map (g * ·)).set a t).map V.int)) l = some (.lst ((rs0.map (g * ·)).map V.int)) := by rw [upd_ne hll]; exact hacc7
      generalize upd H7 l' (.lst (((qs.map (g * ·)).set a t).map V.int)) = H8 at s8' eq8 er8
      have cS : CMulX S g := cmuly I.bS zg (by omega)
      have h28 : SqL K H8 l2 ((es ++ [top]).map V.int) ∨ SqT K H8 l2 ((es ++ [top]).map V.int) := Or.inl (s8'.seq h2)
      have hle : (((es ++ [top]).map V.int).length : Int) - 1 = (es.length : Int) := by
        rw [List.length_map, List.length_append, List.length_singleton]
        omega
      have eB : b + (i + 1) * (m + 1) = b + i * (m + 1) + m + 1 := by rw [Nat.add_mul, Nat.one_mul]; omega
      refine ⟨_, rfl, _, rfl, S, g, rfl, rfl, cS, _, rfl, l2, _, rfl, h28, _, _, rfl, rfl, _, rfl, by rw [hle]; omega, by rw [hle]; omega, ?_⟩
      rw [hle, Int.toNat_natCast]
      refine for_it walk_range (fun j σ H' => ∃ (rs' : List Int) (o10 : Option V), σ = [some (.ref l1), some (.ref l2), some (.ref l), some (.int top), some (.int many), some (.ref l'), some (.int (S * g)), some (.int a), some (.int last), some (.int G), o10, some (.int g), some (.int t), none] ∧ Same H H' ∧ H' l = some (.lst (rs'.map V.int)) ∧ H' l' = some (.lst (((qs.map (g * ·)).set a t).map V.int)) ∧ rs'.length = rs0.length ∧ (∀ x, ev (toR rs') x = (g : Rat) * ev (toR rs0) x - (t : Rat) * x ^ a * ev (toR (es.take j)) x) ∧ (∀ k ∈ rs', Bz (b + (i + 1) * (m + 1)) k) ∧ ∀ k, a + j ≤ k → rs'[k]? = (rs0.map (g * ·))[k]?)
        ⟨rs0.map (g * ·), _, rfl, s8', er8, eq8, List.length_map _, fun x => ?_, fun k hk => ?_, fun _ _ => rfl⟩ (fun _ _ _ _ _ => trivial) ?_ ?_
      · rw [toR_smul, List.take_zero]
        show _ = _ - _ * 0
        grind
      · obtain ⟨c, hc, rfl⟩ := List.mem_map.mp hk
        exact (Bz.mul zg (zr0 c hc)).mono (by omega)
      · rintro j x σ G1' G1 hj ⟨rs', o10, rfl, sg, eg, egq, lg, ig, bg, pg⟩ ⟨rfl, rfl⟩
        have hxj : (fun i : Nat => V.int (0 + (i : Int))) j = V.int (j : Int) := congrArg V.int (by omega)
        rw [hxj]
        have hk : a + j < rs'.length := by omega
        obtain ⟨c, hc⟩ : ∃ c, rs0[a + j]? = some c := ⟨_, List.getElem?_eq_getElem (by omega)⟩
        obtain ⟨d, hd⟩ : ∃ d, es[j]? = some d := ⟨_, List.getElem?_eq_getElem hj⟩
        have hgc : rs'[a + j]? = some (g * c) := by
          rw [pg _ (Nat.le_refl _), List.getElem?_map, hc]
          rfl
        have hgc' : rs'[a + j] = g * c := by
          rw [List.getElem?_eq_getElem hk] at hgc
          exact Option.some.inj hgc
        have zc := zr0 c (List.mem_of_getElem? hc)
        have zd : Bz m d := hzm d (List.mem_append_left _ (List.mem_of_getElem? hd))
        have ctd : CMulX t d := cmuly zt zd (by omega)
        have haj : (a : Int) + (j : Int) = ((a + j : Nat) : Int) := by omega
        have g1 : SqL K G1 l (rs'.map V.int) := SqL.of eg
        have g2' : (rs'.map V.int)[((a : Int) + (j : Int)).toNat]? = some (V.int (g * c)) := by
          rw [haj, Int.toNat_natCast, List.getElem?_map, hgc]
          rfl
        have g3' : (0 : Int) ≤ (a : Int) + (j : Int) := by omega
        have g4 : ixN (rs'.map V.int).length ((a : Int) + (j : Int)) = some (a + j) := by
          rw [haj]
          exact ixn_nat (by rw [List.length_map]; exact hk)
        have h2g : SqL K G1 l2 ((es ++ [top]).map V.int) := sg.seq h2
        have gat : atI ((es ++ [top]).map V.int) (j : Int) = some (V.int d) := atI_nat (by
          rw [List.getElem?_map, List.getElem?_append_left hj, hd]
          rfl)
        have g5 : (rs'.map V.int).set (a + j) (V.int (g * c - t * d)) = (rs'.set (a + j) (g * c - t * d)).map V.int := by rw [List.map_set]
        clear hxj
        walk_at "rd"
        rw [g5]
        refine ⟨rs'.set (a + j) (g * c - t * d), _, rfl, fun b' o e => ?_, upd_same, by rw [upd_ne (Ne.symm hll)]; exact egq, by rw [List.length_set]; exact lg, fun x => ?_, fun k hk' => ?_, fun k hk' => ?_⟩
        · rw [upd_ne (ne_of_none e hlH)]
          exact sg _ _ e
        · have e1 : g * c - t * d = rs'[a + j] + (-(t * d)) := by rw [hgc']; omega
          rw [e1, toR_set hk, ig, toR_take_succ hd, rpow_add]
          push_cast
          grind
        · rcases List.mem_or_eq_of_mem_set hk' with h' | h'
          · exact bg k h'
          · rw [h']
            have b1 : Bz (b + i * (m + 1) + m) (g * c) := (Bz.mul zg zc).mono (by omega)
            have b2 : Bz (b + i * (m + 1) + m) (t * d) := (Bz.mul zt zd).mono (by omega)
            exact (Bz.sub b1 b2).mono (by omega)
        · rw [List.getElem?_set_ne (by omega)]
          exact pg k (by omega)
      · rintro σ G1 ⟨rs', o10, rfl, sg, eg, egq, lg, ig, bg, pg⟩
        rw [List.take_length] at ig
        refine ⟨l, l', rs', (qs.map (g * ·)).set a t, S * g, _, _, _, _, _, _, rfl, sg, hlH, hl'H, hll, eg, egq, by omega, by rw [List.length_set, List.length_map]; exact lq, Int.mul_ne_zero I.S0 hg0, fun x => ?_, fun k hk => ?_, bg, fun k hk => ?_, ?_⟩
        · have hqa : a < (qs.map (g * ·)).length := by rw [List.length_map]; omega
          have hq0 : (qs.map (g * ·))[a] = 0 := by
            have z := I.z a (by omega)
            have : (qs.map (g * ·))[a]? = some (g * 0) := by rw [List.getElem?_map, z]; rfl
            rw [List.getElem?_eq_getElem hqa, Int.mul_zero] at this
            exact Option.some.inj this
          have e1 : t = (qs.map (g * ·))[a] + t := by rw [hq0]; omega
          have e2 : ev (toR ((qs.map (g * ·)).set a t)) x = (g : Rat) * ev (toR qs) x + (t : Rat) * x ^ a := by
            have := toR_set hqa t x
            rw [← e1, toR_smul] at this
            exact this
          rw [e2, ig, toR_concat es top]
          have h0 := hid x
          rw [toR_concat es top, toR_concat rs0 last, l0, rpow_add] at h0
          have hgl : (g : Rat) * (last : Rat) = (t : Rat) * (top : Rat) := by
            have : g * last = t * top := by rw [hlt, htg]; grind
            exact_mod_cast this
          have := split_id h0 hgl
          push_cast
          exact this
        · rw [List.getElem?_set_ne (by omega), List.getElem?_map, I.z k (by omega)]
          show some (g * 0) = _
          rw [Int.mul_zero]
        · rcases List.mem_or_eq_of_mem_set hk with h' | h'
          · obtain ⟨c, hc, rfl⟩ := List.mem_map.mp h'
            exact (Bz.mul zg (I.bq c hc)).mono (by omega)
          · rw [h']
            exact zt.mono mle
        · have := (Bz.mul I.bS zg).mono (c := (i + 1) * (m + 1) + 1) (by rw [Nat.add_mul, Nat.one_mul]; omega)
          exact this
    · rintro σ G1 ⟨r, q1, rs, qs, S, o7, o8, o9, o10, o11, o12, rfl, I⟩
      walk_at "rd"
      intro t ht
      have s2 := same_new (o := .tup [.ref q1, .ref r, .int S]) ht
      have lr := I.lr
      have lq := I.lq
      have mm : many * (m + 1) ≤ N * (m + 1) := Nat.mul_le_mul_right _ (by omega)
      exact q t q1 r qs rs S _ (I.sm.trans s2) (SqT.of upd_same) (s2 _ _ I.eq) (s2 _ _ I.er) I.S0 I.id (by omega) (by omega) (by omega) (fun k hk => (I.bq k hk).mono (by omega)) (fun k hk => (I.br k hk).mono (by omega)) (I.bS.mono (by omega))
end
end Vx
-- pyl
set_option Elab.async false
set_option linter.all false
set_option maxRecDepth 100000
set_option maxHeartbeats 4000000
namespace Vx
open PySem PySem.Spec PyProof.Rows L2
local macro_rules | `(tactic| walk_at "cl") => `(tactic| first | rfl | assumption | omega | exact sz_of 0 rfl (by decide) | exact sz_of 1 rfl (by decide) | exact sz_of 2 rfl (by decide) | exact sz_of 3 rfl (by decide) | exact cmulx (by assumption) (by assumption) (by decide) | exact Bz.mono (Bz.mul (by assumption) (by assumption)) (by decide) | decide)
local macro_rules | `(tactic| walk_at "ex") => `(tactic| ((show Exists _); first | apply @Exists.intro V | apply @Exists.intro Int | apply @Exists.intro Addr | apply @Exists.intro (List V) | apply @Exists.intro Nat | apply @Exists.intro Str | apply @Exists.intro Bool | apply @Exists.intro (Option V) | apply @Exists.intro String | apply @Exists.intro Rat | apply @Exists.intro (List Rat)))
local macro_rules | `(tactic| walk_at "rd") => `(tactic| ((repeat (first | (walk_at "ex") | (apply And.intro; (focus (walk_at "cl"))))); (try dsimp only [])))
local macro_rules | `(tactic| walk_at "r0") => `(tactic| (repeat (first | (walk_at "ex") | (apply And.intro; (focus (walk_at "cl"))))))
section
variable {P : Program} {w : World} {K : PySem.W.Frag} {mg : Str → Option Value} {base : Heap}
/-- split_row -/
def bSplit (l1 b1 l2 b2 : Nat) : Nat := (l1 + 1) * b1 + 1 + l1 * ((l2 + 1) * b2 + 2) + (l2 + 1) * b2 + 1
def spSplit (K : PySem.W.Frag) : Sp := fun vs H Q _ => ∃ (x y : V) (ps qs : List Rat) (b1 b2 : Nat), vs = [x, y] ∧ RwT K H x ps ∧ RwT K H y qs ∧ Tr qs ∧ qs ≠ [] ∧ Qs b1 ps ∧ Qs b2 qs ∧ ps.length < 100 ∧ qs.length < 100 ∧ bSplit ps.length b1 qs.length b2 ≤ 8000 ∧
  ∀ (t : Addr) (v1 v2 : V) (q r : List Rat) H', Same H H' → SqT K H' t [v1, v2] → RwT K H' v1 q → RwT K H' v2 r → Tr q → Tr r → (∀ z, ev ps z = ev q z * ev qs z + ev r z) → r.length < qs.length → q.length ≤ ps.length → r.length ≤ ps.length →
    Qs (bSplit ps.length b1 qs.length b2) q → Qs (bSplit ps.length b1 qs.length b2) r → Q (.ref t) H'
theorem sc_split_row : FnScope ["row", "other", "numbers", "under", "by", "unit", "quotient", "rest", "scale", "full", "x"] ["row", "other"] (defScope s_split_row) := ⟨rfl, rfl, rfl, by decide +kernel, rfl, by decide +kernel, by decide +kernel⟩
theorem d_split_row (W : FunIn K mg "split_row" s_split_row) (Dcleared : Df P w K mg base "cleared" 33 ["row"] (spClear K)) (Dwhole_split : Df P w K mg base "whole_split" 33 ["numbers", "by"] (spWSplit K)) (Drow_over : Df P w K mg base "row_over" 35 ["numbers", "under"] (spOver K)) : Df P w K mg base "split_row" 36 ["row", "other"] (spSplit K) := by
  obtain ⟨f, fd, F, hm⟩ := W
  refine ⟨f, fd, F.ok sc_split_row (fun vs H Q E h => ?_) (fun cdv A outer s H vs Q E hr h => ?_), hm, F.kp, F.binds fun _ _ _ _ _ _ us hl => match us, hl with | [_, _], _ => rfl⟩
  · obtain ⟨x, y, ps, qs, b1, b2, rfl, _⟩ := h
    rfl
  · obtain ⟨x, y, ps, qs, b1, b2, rfl, hx, hy, tq, nq, zp, zq, lp, lq, hb, q⟩ := h
    have nd := sc_split_row.nd
    unfold bSplit at hb
    have m1 : (ps.length + 1) * b1 = ps.length * b1 + b1 := by rw [Nat.add_mul, Nat.one_mul]
    have m2 : (qs.length + 1) * b2 = qs.length * b2 + b2 := by rw [Nat.add_mul, Nat.one_mul]
    have m3 : ps.length * (b2 + (qs.length * b2 + 1) + 1) = ps.length * ((qs.length + 1) * b2 + 2) := by
      congr 1
      omega
    refine ⟨_, (pss_cons (ps_asg (pe_d Dcleared (hr.mono (by decide)) rfl (pa_cons (pv 0) pa_nil)) (pg_tup rfl (pgs_cons (pg_name (i := 2) nd rfl (Or.inl rfl) (Or.inr rfl)) (pgs_cons (pg_name (i := 3) nd rfl (Or.inl rfl) (Or.inr rfl)) pgs_nil))))
        (pss_cons (ps_asg (pe_d Dcleared (hr.mono (by decide)) rfl (pa_cons (pv 1) pa_nil)) (pg_tup rfl (pgs_cons (pg_name (i := 4) nd rfl (Or.inl rfl) (Or.inr rfl)) (pgs_cons (pg_name (i := 5) nd rfl (Or.inr rfl)) pgs_nil))))
        (pss_cons (ps_asg (pe_d Dwhole_split (hr.mono (by decide)) rfl (pa_cons (pv 2) (pa_cons (pv 4) pa_nil))) (pg_tup rfl (pgs_cons (pg_name (i := 6) nd rfl (Or.inl rfl) (Or.inr rfl)) (pgs_cons (pg_name (i := 7) nd rfl (Or.inl rfl) (Or.inr rfl)) (pgs_cons (pg_name (i := 8) nd rfl (Or.inl rfl) (Or.inr rfl)) pgs_nil)))))
        (pss_cons (ps_set (i := 9) nd rfl (Or.inl rfl) (pe_op op_mulX (pv 8) (pv 3)))
        (pss_one (ps_ret (pe_tup (pa_cons (pe_d Drow_over (hr.mono (by decide)) rfl (pa_cons (pe_lc (own := [("x", 10)]) rfl nd (pi_list (pv 6)) (blkOk_by (own := [("x", 10)]) (N := ["row", "other", "numbers", "under", "by", "unit", "quotient", "rest", "scale", "full", "x"]) (sc := defScope s_split_row) (by decide +kernel)) (fun _ _ _ _ _ => (pg_name (i := 10) nd rfl (Or.inl rfl) (Or.inr rfl))) (fun _ _ _ _ _ => pts_nil) (fun _ _ _ _ _ => (pe_op op_mulX (pv 5) (pv 10)))) (pa_cons (pv 9) pa_nil))) (pa_cons (pe_d Drow_over (hr.mono (by decide)) rfl (pa_cons (pv 7) (pa_cons (pv 9) pa_nil))) pa_nil))))))))), ?_⟩
    refine ⟨x, rfl, x, ps, b1, rfl, hx, zp, by omega, by omega, fun t1 l1 ns D1 H1 s1 ht1 hl1 hn1 hD1 hz1 hzn1 he1 => ?_⟩
    refine ⟨t1, _, rfl, ht1, rfl, _, _, rfl, _, _, rfl, rfl, ?_⟩
    have hy1 := RwT.mono (same_t s1) hy
    refine ⟨y, rfl, y, qs, b2, rfl, hy1, zq, by omega, by omega, fun t2 l2 ms D2 H2 s2 ht2 hl2 hn2 hD2 hz2 hzn2 he2 => ?_⟩
    refine ⟨t2, _, rfl, ht2, rfl, _, _, rfl, _, _, rfl, rfl, ?_⟩
    have hl1' : SqL K H2 l1 (ns.map V.int) := s2.seq (SqL.of hl1)
    have hl2' : SqL K H2 l2 (ms.map V.int) := SqL.of hl2
    obtain ⟨es, top, rfl⟩ : ∃ es top, ms = es ++ [top] := by
      rcases List.eq_nil_or_concat ms with z | ⟨l, c, z⟩
      · rw [z, List.length_nil] at hn2
        exact absurd (List.length_eq_zero_iff.mp hn2.symm) nq
      · exact ⟨l, c, by simpa using z⟩
    have htop : top ≠ 0 := fun z => by
      have e := congrArg List.getLast? he2
      rw [List.map_append, List.getLast?_append, List.getLast?_map, List.getLast?_map (l := qs), List.getLast?_eq_getLast nq] at e
      have e' : (top : Rat) = (D2 : Rat) * qs.getLast nq := by simpa using e
      have h1 := tq nq
      have h2 : (D2 : Rat) ≠ 0 := by exact_mod_cast (show D2 ≠ 0 by omega)
      rw [z] at e'
      grind
    have hle : es.length + 1 = qs.length := by
      rw [← hn2, List.length_append]
      rfl
    refine ⟨_, rfl, _, rfl, l1, l2, ns, es, top, _, _, ns.length, rfl, hl1', hl2', htop, hzn1, hzn2, by omega, by omega, by rw [hn1]; omega, by omega, by omega, by omega, fun t3 q3 r3 Qn Rn S H3 s3 ht3 eQ eR hS hid lR1 lR2 lQ bQ bR bS => ?_⟩
    rw [hn1] at bQ bR bS lQ lR2
    refine ⟨t3, _, rfl, ht3, rfl, _, _, rfl, _, _, rfl, _, _, rfl, rfl, ?_⟩
    have cF : CMulX S D1 := cmulx bS hz1 (by omega)
    have hF0 : S * D1 ≠ 0 := Int.mul_ne_zero hS (by omega)
    have hFz : Bz 800000 (S * D1) := (Bz.mul bS hz1).mono (by omega)
    refine ⟨_, rfl, _, rfl, S, D1, rfl, rfl, cF, ?_⟩
    refine ⟨_, rfl, q3, rfl, ⟨_, SqL.of eQ⟩, fun l hl => lc_map (walk_list (K := K) (a := q3) (xs := Qn.map V.int)) hl (by rw [List.length_map, sizeLine_eq]; omega) (fun i _ v => ∃ c, Qn[i]? = some c ∧ v = .int (D2 * c)) (fun _ _ _ _ _ h => h) (fun H1 s1 => s1.seq (SqL.of eQ)) ?_ ?_⟩
    · rintro j u G1 G2 hj s1 _ ⟨rfl, hu⟩ Fin hF
      rw [List.getElem?_map] at hu
      obtain ⟨c, hc, rfl⟩ := Option.map_eq_some_iff.mp hu
      have cz := bQ c (List.mem_of_getElem? hc)
      have c3 : CMulX D2 c := cmulx hz2 cz (by omega)
      walk_at "rd"
      exact hF _ _ (Same.refl _) ⟨c, hc, rfl⟩
    rintro H4 acc s4 hacc hlen hel
    rw [acc_map hlen hel] at hacc
    clear hel hlen acc
    have eR4 := s4 _ _ eR
    refine ⟨_, rfl, l, Qn.map (D2 * ·), S * D1, rfl, SqL.of hacc, hF0, hFz, by rw [List.length_map]; omega, fun v1 q1 H5 s5 hv1 tq1 hev1 hqz1 hlq1 => ?_⟩
    have eR5 := s5 _ _ eR4
    refine ⟨_, rfl, _, rfl, r3, Rn, S * D1, rfl, SqL.of eR5, hF0, hFz, by omega, fun v2 q2 H6 s6 hv2 tq2 hev2 hqz2 hlq2 => ?_⟩
    walk_at "rd"
    intro t ht
    have s7 := same_new (o := .tup [v1, v2]) ht
    rw [List.length_map] at hlq1
    refine q t v1 v2 q1 q2 _ (((((s1.trans s2).trans s3).trans s4).trans s5).trans s6 |>.trans s7) (SqT.of upd_same) ((hv1.mono (same_t s6)).mono (same_t s7)) (hv2.mono (same_t s7)) tq1 tq2 (fun z => ?_) (by omega) (by omega) (by omega) ?_ ?_
    · have h0 := hid z
      rw [toR_scale he1, toR_scale he2] at h0
      rw [hev1, hev2, toR_smul]
      have h1 : (D1 : Rat) ≠ 0 := by exact_mod_cast (show D1 ≠ 0 by omega)
      have h2 : (S : Rat) ≠ 0 := by exact_mod_cast hS
      have h3 : ((S * D1 : Int) : Rat) ≠ 0 := by exact_mod_cast hF0
      have h4 : ((S * D1 : Int) : Rat) = (S : Rat) * (D1 : Rat) := by push_cast; rfl
      rw [h4] at *
      grind
    · refine hqz1 _ (fun n hn => ?_) ((Bz.mul bS hz1).mono (by unfold bSplit; omega))
      obtain ⟨c, hc, rfl⟩ := List.mem_map.mp hn
      exact (Bz.mul hz2 (bQ c hc)).mono (by unfold bSplit; omega)
    · exact hqz2 _ (fun n hn => (bR n hn).mono (by unfold bSplit; omega)) ((Bz.mul bS hz1).mono (by unfold bSplit; omega))
end
end Vx
-- pyl
set_option Elab.async false
set_option linter.all false
set_option maxRecDepth 100000
set_option maxHeartbeats 4000000
namespace Vx
open PySem PySem.Spec PyProof.Rows L2
local macro_rules | `(tactic| walk_at "cl") => `(tactic| first | rfl | assumption | omega | exact sz_of 0 rfl (by decide) | exact sz_of 1 rfl (by decide) | exact sz_of 2 rfl (by decide) | exact sz_of 3 rfl (by decide) | exact cmulx (by assumption) (by assumption) (by decide) | exact Bz.mono (Bz.mul (by assumption) (by assumption)) (by decide) | decide)
local macro_rules | `(tactic| walk_at "ex") => `(tactic| ((show Exists _); first | apply @Exists.intro V | apply @Exists.intro Int | apply @Exists.intro Addr | apply @Exists.intro (List V) | apply @Exists.intro Nat | apply @Exists.intro Str | apply @Exists.intro Bool | apply @Exists.intro (Option V) | apply @Exists.intro String | apply @Exists.intro Rat | apply @Exists.intro (List Rat)))
local macro_rules | `(tactic| walk_at "rd") => `(tactic| ((repeat (first | (walk_at "ex") | (apply And.intro; (focus (walk_at "cl"))))); (try dsimp only [])))
local macro_rules | `(tactic| walk_at "r0") => `(tactic| (repeat (first | (walk_at "ex") | (apply And.intro; (focus (walk_at "cl"))))))

section
variable {P : Program} {w : World} {K : PySem.W.Frag} {mg : Str → Option Value} {base : Heap}
/-- is_filled_row -/
def spFil (K : PySem.W.Frag) (tb : Addr) : Sp := fun vs H Q _ => ∃ (x : V) (qs : List Rat), vs = [x] ∧ RwT K H x qs ∧ Tr qs ∧ qs ≠ [] ∧ H tb = some (tabX tb) ∧ ∀ H', Same H H' → Q (.bl true) H'
theorem sc_is_filled_row : FnScope ["value"] ["value"] (defScope s_is_filled_row) := ⟨rfl, rfl, rfl, by decide +kernel, rfl, by decide +kernel, by decide +kernel⟩
theorem d_is_filled_row {tb : Addr} (W : FunIn K mg "is_filled_row" s_is_filled_row) (Dis_row : Df P w K mg base "is_row" 2 ["value"] (spIsRow K tb)) : Df P w K mg base "is_filled_row" 3 ["value"] (spFil K tb) := by
  obtain ⟨f, fd, F, hm⟩ := W
  refine ⟨f, fd, F.ok sc_is_filled_row (fun vs H Q E h => ?_) (fun cdv A outer s H vs Q E hr h => ?_), hm, F.kp, F.binds fun _ _ _ _ _ _ us hl => match us, hl with | [_], _ => rfl⟩
  · obtain ⟨x, qs, rfl, _⟩ := h
    rfl
  · obtain ⟨x, qs, rfl, hx, ht, nq, htb, q⟩ := h
    refine ⟨_, (pss_one (ps_ret (pe_and (pe_d Dis_row (hr.mono (by decide)) rfl (pa_cons (pv 0) pa_nil)) (pe_one (pe_cmpR (op_neD (hu64 hr)) (pv 0) (pe_tup pa_nil) (nomark _)))))), ?_⟩
    refine ⟨x, rfl, x, qs, rfl, hx, ht, htb, fun H1 s1 => ?_⟩
    refine ⟨true, rfl, ?_⟩
    rw [if_pos rfl]
    walk_at "rd"
    intro p hp
    have s2 := same_new (o := .tup []) hp
    have e2 : SqT K (upd H1 p (.tup [])) p [] := SqT.of upd_same
    refine rNeD_rw ((hx.mono (same_t s1)).mono (same_t s2)) (rwt_nil e2) ?_
    rw [decide_eq_false nq]
    exact q _ (s1.trans s2)
/-- check_filled_row -/
def spCkFil (K : PySem.W.Frag) (tb : Addr) : Sp := fun vs H Q _ => ∃ (x : V) (qs : List Rat), vs = [x] ∧ RwT K H x qs ∧ Tr qs ∧ qs ≠ [] ∧ H tb = some (tabX tb) ∧ ∀ H', Same H H' → Q .non H'
theorem sc_check_filled_row : FnScope ["given"] ["given"] (defScope s_check_filled_row) := ⟨rfl, rfl, rfl, by decide +kernel, rfl, by decide +kernel, by decide +kernel⟩
theorem d_check_filled_row {tb : Addr} (W : FunIn K mg "check_filled_row" s_check_filled_row) (Dis_filled_row : Df P w K mg base "is_filled_row" 3 ["value"] (spFil K tb)) : Df P w K mg base "check_filled_row" 4 ["given"] (spCkFil K tb) := by
  obtain ⟨f, fd, F, hm⟩ := W
  refine ⟨f, fd, F.ok sc_check_filled_row (fun vs H Q E h => ?_) (fun cdv A outer s H vs Q E hr h => ?_), hm, F.kp, F.binds fun _ _ _ _ _ _ us hl => match us, hl with | [_], _ => rfl⟩
  · obtain ⟨x, qs, rfl, _⟩ := h
    rfl
  · obtain ⟨x, qs, rfl, hx, ht, nq, htb, q⟩ := h
    refine ⟨_, (pss_one (ps_if (pt_not (pt_val (pe_d Dis_filled_row (hr.mono (by decide)) rfl (pa_cons (pv 0) pa_nil)))) (pss_one ps_absurd) pss_nil)), ?_⟩
    refine ⟨x, rfl, x, qs, rfl, hx, ht, nq, htb, fun H1 s1 => ?_⟩
    refine ⟨true, rfl, ?_⟩
    exact q _ s1
/-- parted -/
def spPtd (K : PySem.W.Frag) (tb : Addr) : Sp := fun vs H Q E => ∃ (x y : V) (ps qs : List Rat), vs = [x, y] ∧ RwT K H x ps ∧ RwT K H y qs ∧ Tr ps ∧ Tr qs ∧ qs ≠ [] ∧ H tb = some (tabX tb) ∧ ∀ H', Same H H' → spSplit K [x, y] H' Q E
/-- divides -/
def spDiv (K : PySem.W.Frag) (tb : Addr) : Sp := fun vs H Q _ => ∃ (x y : V) (qs ps : List Rat) (b1 b2 : Nat), vs = [x, y] ∧ RwT K H x qs ∧ RwT K H y ps ∧ Tr qs ∧ Tr ps ∧ qs ≠ [] ∧ H tb = some (tabX tb) ∧ Qs b1 ps ∧ Qs b2 qs ∧ ps.length < 100 ∧ qs.length < 100 ∧ bSplit ps.length b1 qs.length b2 ≤ 8000 ∧
  ∀ (q r : List Rat) H', Same H H' → Tr q → Tr r → (∀ z, ev ps z = ev q z * ev qs z + ev r z) → r.length < qs.length → Q (.bl (decide (r = []))) H'
end

end Vx
namespace Vx
open PySem PySem.Spec PyProof.Rows L2
section
variable {X : Cx}
theorem call_isiTup : CallR X (.builtin "isinstance") (fun vs H Q => ∃ a xs, vs = [.ref a, .ty "tuple"] ∧ SqT X.K H a xs ∧ Q (.bl true) H) := by
  intro pins s σ H xs us Q I r h
  obtain ⟨a, ys, rfl, hq, q⟩ := h
  refine call_isi pins s σ H _ us Q I r ⟨_, _, .type "tuple", _, true, rfl, .ty "tuple", ?_, by rfl, q⟩
  rcases hq with h | ⟨o, its, n, h, c, _⟩
  · rcases h with h | ⟨o, h⟩
    · exact .base (.tup h)
    · exact .fTuple h
  · exact .kTuple h c
theorem call_isiInt : CallR X (.builtin "isinstance") (fun vs H Q => ∃ i, vs = [.int i, .ty "int"] ∧ Q (.bl true) H) := by
  intro pins s σ H xs us Q I r h
  obtain ⟨i, rfl, q⟩ := h
  exact call_isi pins s σ H _ us Q I r ⟨_, _, .type "int", _, true, rfl, .ty "int", .base (.int i), by rfl, q⟩
theorem call_isiBool : CallR X (.builtin "isinstance") (fun vs H Q => ∃ i, vs = [.int i, .ty "bool"] ∧ Q (.bl false) H) := by
  intro pins s σ H xs us Q I r h
  obtain ⟨i, rfl, q⟩ := h
  exact call_isi pins s σ H _ us Q I r ⟨_, _, .type "int", _, false, rfl, .ty "bool", .base (.int i), by rfl, q⟩
end
end Vx
namespace Vx
open PySem PySem.Spec PyProof.Rows L2
structure Sz (d : PyData) (n k : Nat) : Prop where
  sh : d.showable = true
  de : d.depth ≤ k
  c : cost d ≤ n
structure SzA (ds : List PyData) (n k : Nat) : Prop where
  sh : PyData.showableAll ds = true
  de : PyData.depthAll ds ≤ k
  c : costs ds ≤ n
theorem SzA.nil : SzA [] 0 0 := ⟨rfl, by simp [PyData.depthAll], Nat.le_refl _⟩
theorem Sz.cons {d : PyData} {ds : List PyData} {n k m j : Nat} (h : Sz d n k) (t : SzA ds m j) : SzA (d :: ds) (n + 2 + m) (max k j) := by
  refine ⟨?_, ?_, ?_⟩
  · simp only [PyData.showableAll, h.sh, t.sh, Bool.and_self]
  · simp only [PyData.depthAll]
    have := h.de
    have := t.de
    omega
  · show cost d + 2 + costs ds ≤ _
    have := h.c
    have := t.c
    omega
theorem SzA.lst {ds : List PyData} {n k : Nat} (h : SzA ds n k) : Sz (.list ds) (n + 2) (k + 1) := by
  refine ⟨by simpa [PyData.showable] using h.sh, ?_, ?_⟩
  · have := h.de
    simp only [PyData.depth]
    omega
  · show costs ds + 2 ≤ _
    have := h.c
    omega
theorem SzA.tup {ds : List PyData} {n k : Nat} (h : SzA ds n k) : Sz (.tuple ds) (n + 3) (k + 1) := by
  refine ⟨by simpa [PyData.showable] using h.sh, ?_, ?_⟩
  · have := h.de
    simp only [PyData.depth]
    omega
  · show costs ds + 3 ≤ _
    have := h.c
    omega
theorem Sz.ok {d : PyData} {n k : Nat} (h : Sz d n k) (hk : k < 60) (hn : n ≤ 16000000) : Okd d := ⟨h.sh, Nat.lt_of_le_of_lt h.de hk, Nat.le_trans h.c hn⟩
theorem sz_rw {r : List Rat} (h : Qs 1900 r) (hl : r.length ≤ 60) : Sz (dRw r) 231200 3 := by
  refine ⟨?_, ?_, ?_⟩
  · unfold dRw
    simpa [PyData.showable] using showA_rw r h
  · have := depth_rw r
    unfold dRw
    simp only [PyData.depth]
    omega
  · show costs (r.map dFr) + 3 ≤ _
    rw [costs_fr]
    omega
theorem sz_fr {q : Rat} (h : Qz 1900 q) : Sz (dFr q) 3851 2 := by
  refine ⟨?_, ?_, Nat.le_refl _⟩
  · have := showA_rw [q] (fun c hc => by rw [List.mem_singleton.mp hc]; exact h)
    simpa [PyData.showableAll] using this
  · unfold dFr
    simp [PyData.depth, PyData.depthAll]
theorem sz_bl (b : Bool) : Sz (.bool b) 5 1 := ⟨by simp [PyData.showable], by simp [PyData.depth], Nat.le_refl _⟩
/-- two ways, one end -/
theorem if_join {c : Prop} [Decidable c] {tA tB : TE} {σ : L2.St} {H : Hp} {Qc : VK} (R : V → Hp → Prop) (hA : c → ∀ Q : VK, (∀ v H', R v H' → Q v H') → tA σ H Q) (hB : ¬ c → ∀ Q : VK, (∀ v H', R v H' → Q v H') → tB σ H Q)
    (k : ∀ v H', R v H' → Qc v H') : if decide c = true then tA σ H Qc else tB σ H Qc := tif (fun h => hA h Qc k) fun h => hB h Qc k
theorem ev_nil (z : Rat) : ev [] z = 0 := rfl
/-- what is a product with d leaves no rest -/
theorem div_zero' {d q r a : List Rat} (hd : Tr d) (hnd : d ≠ []) (hq : Tr q) (hr : Tr r) (hl : r.length < d.length) (h : ∀ z, ev q z * ev d z + ev r z = ev a z * ev d z) : r = [] := by
  obtain ⟨t, h1, _, h3⟩ := trim_ex a
  refine (div_unique hd hnd hq h1 hr tr_nil hl (List.length_pos_iff.mpr hnd) fun z => ?_).2
  rw [h, h3, ev_nil]
  grind
theorem prod_ne {a b r : List Rat} (ha : Tr a) (hb : Tr b) (hna : a ≠ []) (hnb : b ≠ []) (hr : Tr r) (h : ∀ z, ev r z = ev a z * ev b z) : r ≠ [] := fun e => by
  have e2 : pmul a b = r := ev_inj (tr_pmul ha hb hna hnb) hr fun z => by rw [ev_pmul, h]
  have l := (pmul_shape a b hna hnb).1
  have l1 := List.length_pos_iff.mpr hna
  have l2 := List.length_pos_iff.mpr hnb
  rw [e2, e, List.length_nil] at l
  omega
theorem tr_dropZ {qs : List Rat} {m : Nat} : (qs.take m).length ≤ qs.length := by
  rw [List.length_take]
  omega
end Vx
namespace Vx
open PySem PySem.Spec PyProof.Rows L2
theorem rep_q {k : Nat} {xs ys : List V} {p : Addr} {H : Hp} {Q : VK} {y : V} (hy : y = .int (k : Int)) (h : H p = some (.lst xs)) (hk : k ≤ 1000) (hl : xs.length ≤ 100) (e : (List.replicate k xs).flatten = ys) (q : ∀ q0, H q0 = none → Q (.ref q0) (upd H q0 (.lst ys))) : rRep (.ref p) y H Q := by
  subst e hy
  refine ⟨p, k, xs, rfl, rfl, h, by omega, by omega, ?_, fun q0 h0 => ?_⟩
  · rw [Int.toNat_natCast, sizeLine_eq]
    have : xs.length * k ≤ 100 * 1000 := Nat.mul_le_mul hl hk
    omega
  · rw [Int.toNat_natCast]
    exact q q0 h0
end Vx
namespace Vx
open PySem PySem.Spec PyProof.Rows L2
theorem rep_qc {k : Nat} {xs ys : List V} {p : Addr} {H : Hp} {Q : VK} {y : V} {σ : L2.St} (hy : y = .int (k : Int)) (h : H p = some (.lst xs)) (hk : k ≤ 1000) (hl : xs.length ≤ 100) (e : (List.replicate k xs).flatten = ys) (q : ∀ q0, H q0 = none → Q (.ref q0) (upd H q0 (.lst ys))) : tC y σ H fun y H2 => rRep (.ref p) y H2 Q := rep_q hy h hk hl e q
end Vx
namespace Vx
open PySem PySem.Spec PyProof.Rows L2
/-- a statement, then the rest: what is known between them -/
theorem seq_cut {S T : TS} {D : Ends} {σ : L2.St} {H : Hp} (R : L2.St → Hp → Prop) (h1 : ∀ nx : L2.St → Hp → Prop, (∀ σ' H', R σ' H' → nx σ' H') → S { D with nx := nx } σ H)
    (h2 : ∀ σ' H', R σ' H' → T D σ' H') : tSeq S T D σ H := h1 _ h2
end Vx
namespace Vx
open PySem PySem.Spec PyProof.Rows L2
theorem if_no {c : Prop} [Decidable c] {A B : Prop} (h : ¬ c) (q : B) : if decide c = true then A else B := by
  rw [decide_eq_false h, if_neg Bool.false_ne_true]
  exact q
theorem if_yes {c : Prop} [Decidable c] {A B : Prop} (h : c) (q : A) : if decide c = true then A else B := by
  rw [decide_eq_true h, if_pos rfl]
  exact q
end Vx
namespace Vx
open PySem PySem.Spec PyProof.Rows L2
theorem not_dec {c : Prop} [Decidable c] (h : c) : (!decide c) = false := by
  rw [decide_eq_true h]
  rfl
theorem notb {b : Bool} (h : b = true) : (!decide (b = true)) = false := by
  subst h
  rfl
theorem if_ff {A B : Prop} (q : B) : if false = true then A else B := q
theorem ev_one (z : Rat) : ev [1] z = 1 := by
  show (1 : Rat) + z * 0 = 1
  grind
theorem qs_ladd {b : Nat} : ∀ {p q : List Rat} {a : Nat}, Qs a p → Qs b q → Qs (a + b + 1) (ladd p q)
  | [], q, a, _, h => by
    show Qs (a + b + 1) q
    exact h.mono (by omega)
  | x :: p, [], a, h, _ => by
    show Qs (a + b + 1) (x :: p)
    exact h.mono (by omega)
  | x :: p, y :: q, a, h, k => by
    intro c hc
    rcases List.mem_cons.mp hc with rfl | hc
    · exact Qz.add (h x List.mem_cons_self) (k y List.mem_cons_self)
    · exact qs_ladd (fun c h' => h c (List.mem_cons_of_mem _ h')) (fun c h' => k c (List.mem_cons_of_mem _ h')) c hc
theorem qs_smul {a b : Nat} {x : Rat} {q : List Rat} (h : Qz a x) (k : Qs b q) : Qs (a + b) (q.map (x * ·)) := fun c hc => by
  obtain ⟨y, hy, rfl⟩ := List.mem_map.mp hc
  exact Qz.mul h (k y hy)
theorem qs_pmul {a b : Nat} : ∀ {p q : List Rat}, Qs a p → Qs b q → Qs (p.length * (a + b + 1)) (pmul p q)
  | [], q, _, _ => fun c hc => by cases hc
  | [x], q, h, k => by
    show Qs _ (q.map (x * ·))
    exact (qs_smul (h x List.mem_cons_self) k).mono (by simp)
  | x :: y :: p, q, h, k => by
    show Qs _ (ladd (q.map (x * ·)) (0 :: pmul (y :: p) q))
    have ih := qs_pmul (p := y :: p) (fun c h' => h c (List.mem_cons_of_mem _ h')) k
    have e : (x :: y :: p).length * (a + b + 1) = (a + b) + (y :: p).length * (a + b + 1) + 1 := by
      rw [List.length_cons, Nat.add_mul, Nat.one_mul]
      omega
    have hp : 0 < (y :: p).length * (a + b + 1) := Nat.mul_pos (by simp) (by omega)
    rw [e]
    refine qs_ladd (qs_smul (h x List.mem_cons_self) k) fun c hc => ?_
    rcases List.mem_cons.mp hc with rfl | hc
    · exact qz0 hp
    · exact ih c hc
theorem ev_nil_of {a b r : List Rat} (hr : Tr r) (h : ∀ z, ev r z = ev a z * ev b z) (e : a = [] ∨ b = []) : r = [] := ev_inj hr tr_nil fun z => by
  rw [h]
  rcases e with rfl | rfl
  · show (0 : Rat) * _ = 0
    grind
  · show _ * (0 : Rat) = 0
    grind
theorem prod_is {a b r : List Rat} (ha : Tr a) (hb : Tr b) (hr : Tr r) (h : ∀ z, ev r z = ev a z * ev b z) (na : a ≠ []) (nb : b ≠ []) : r = pmul a b := ev_inj hr (tr_pmul ha hb na nb) fun z => by rw [h, ev_pmul]
theorem prod_len {a b r : List Rat} (ha : Tr a) (hb : Tr b) (hr : Tr r) (h : ∀ z, ev r z = ev a z * ev b z) {n m : Nat} (hn : a.length ≤ n) (hm : b.length ≤ m) : r.length ≤ n + m - 1 := by
  by_cases e : a = [] ∨ b = []
  · rw [ev_nil_of hr h e]
    exact Nat.zero_le _
  · rw [prod_is ha hb hr h (fun z => e (.inl z)) fun z => e (.inr z)]
    have := (pmul_shape a b (fun z => e (.inl z)) fun z => e (.inr z)).1
    omega
theorem prod_qs {a b r : List Rat} (ha : Tr a) (hb : Tr b) (hr : Tr r) (h : ∀ z, ev r z = ev a z * ev b z) {n c d : Nat} (hc : Qs c a) (hd : Qs d b) (hn : a.length ≤ n) : Qs (n * (c + d + 1)) r := by
  by_cases e : a = [] ∨ b = []
  · rw [ev_nil_of hr h e]
    exact fun _ h => by cases h
  · rw [prod_is ha hb hr h (fun z => e (.inl z)) fun z => e (.inr z)]
    exact (qs_pmul hc hd).mono (Nat.mul_le_mul_right _ hn)
end Vx
namespace Vx
open PySem PySem.Spec PyProof.Rows L2
theorem rSlA_takeW {K : PySem.W.Frag} {H : Hp} {x : V} {qs : List Rat} {m : Nat} {Q : VK} (h : RwT K H x qs) (q : ∀ v H', Same H H' → RwT K H' v (qs.take m) → Q v H') : rSlA K x none (some (m : Int)) H Q := by
  by_cases hm : m ≤ qs.length
  · exact rSlA_take h hm q
  obtain ⟨a, us, rfl, ha, hA⟩ := h
  have hL := hA.length
  refine ⟨a, us, rfl, ha, fun hw => ?_, fun hw p hp => ?_⟩
  · rw [List.take_of_length_le (show qs.length ≤ m by omega)] at q
    exact q _ H (Same.refl _) ⟨a, us, rfl, ha, hA⟩
  · refine absurd ⟨?_, ?_⟩ hw
    · rfl
    · rw [HT.sIx_nat, Nat.min_eq_right (by omega)]
end Vx
namespace Vx
def at0 (l : List Rat) (i : Nat) : Rat := l.getD i 0
theorem at0_map {f : Nat → Rat} {n i : Nat} (h : i < n) : at0 ((List.range n).map f) i = f i := by
  unfold at0
  rw [List.getD_eq_getElem?_getD, List.getElem?_map, List.getElem?_range h]
  rfl
theorem at0_out {l : List Rat} {i : Nat} (h : l.length ≤ i) : at0 l i = 0 := by
  unfold at0
  rw [List.getD_eq_getElem?_getD, List.getElem?_eq_none h]
  rfl
theorem at0_some {l : List Rat} {i : Nat} {c : Rat} (h : l[i]? = some c) : at0 l i = c := by
  unfold at0
  rw [List.getD_eq_getElem?_getD, h]
  rfl
theorem at0_get {l : List Rat} {i : Nat} (h : i < l.length) : l[i]? = some (at0 l i) := by
  unfold at0
  rw [List.getD_eq_getElem?_getD, List.getElem?_eq_getElem h]
  rfl
theorem at0_mem {l : List Rat} {i : Nat} (h : i < l.length) : at0 l i ∈ l := List.mem_of_getElem? (at0_get h)
theorem ext0 {l m : List Rat} (h : l.length = m.length) (e : ∀ i, i < l.length → at0 l i = at0 m i) : l = m := by
  refine List.ext_getElem? fun i => ?_
  by_cases hi : i < l.length
  · rw [at0_get hi, at0_get (by omega), e i hi]
  · rw [List.getElem?_eq_none (by omega), List.getElem?_eq_none (by omega)]
def smul (c : Rat) (l : List Rat) : List Rat := l.map (c * ·)
theorem smul_len (c : Rat) (l : List Rat) : (smul c l).length = l.length := List.length_map _
theorem at0_smul (c : Rat) (l : List Rat) (i : Nat) : at0 (smul c l) i = c * at0 l i := by
  by_cases h : i < l.length
  · refine at0_some ?_
    unfold smul
    rw [List.getElem?_map, at0_get h]
    rfl
  · rw [at0_out (by rw [smul_len]; omega), at0_out (by omega)]
    grind
theorem smul_smul (c d : Rat) (l : List Rat) : smul c (smul d l) = smul (c * d) l := ext0 (by simp only [smul_len]) fun i _ => by
  simp only [at0_smul]
  grind
theorem smul_one (l : List Rat) : smul 1 l = l := ext0 (smul_len _ _) fun i _ => by
  rw [at0_smul]
  grind
/-! one bend more, one bend less -/
def up (k : Rat) (l : List Rat) : List Rat := (List.range (l.length + 1)).map fun i => at0 l i + k * at0 l (l.length - i)
def upR : List Rat → List Rat
  | [] => [1]
  | k :: ks => up k (upR ks)
def nx (l : List Rat) : List Rat := (List.range (l.length - 1)).map fun i => at0 l 0 * at0 l i - at0 l (l.length - 1) * at0 l (l.length - 1 - i)
def fb : Nat → List Rat → Option (List Rat)
  | 0, _ => some []
  | n + 1, l => if at0 l 0 * at0 l 0 ≤ at0 l (l.length - 1) * at0 l (l.length - 1) then none else (fb n (nx l)).map (at0 l (l.length - 1) / at0 l 0 :: ·)
theorem fb_succ (n : Nat) (l : List Rat) : fb (n + 1) l = if at0 l 0 * at0 l 0 ≤ at0 l (l.length - 1) * at0 l (l.length - 1) then none else (fb n (nx l)).map (at0 l (l.length - 1) / at0 l 0 :: ·) := rfl
theorem up_len (k : Rat) (l : List Rat) : (up k l).length = l.length + 1 := by
  unfold up
  rw [List.length_map, List.length_range]
theorem nx_len (l : List Rat) : (nx l).length = l.length - 1 := by
  unfold nx
  rw [List.length_map, List.length_range]
theorem upR_len : ∀ ks : List Rat, (upR ks).length = ks.length + 1
  | [] => rfl
  | k :: ks => by
    show (up k (upR ks)).length = _
    rw [up_len, upR_len ks]
    rfl
theorem at0_up {k : Rat} {l : List Rat} {i : Nat} (h : i ≤ l.length) : at0 (up k l) i = at0 l i + k * at0 l (l.length - i) := at0_map (by omega)
theorem at0_nx {l : List Rat} {i : Nat} (h : i < l.length - 1) : at0 (nx l) i = at0 l 0 * at0 l i - at0 l (l.length - 1) * at0 l (l.length - 1 - i) := at0_map h
theorem up_head {k : Rat} {l : List Rat} : at0 (up k l) 0 = at0 l 0 := by
  rw [at0_up (Nat.zero_le _), Nat.sub_zero, at0_out (Nat.le_refl l.length)]
  grind
theorem up_last {k : Rat} {l : List Rat} : at0 (up k l) l.length = k * at0 l 0 := by
  rw [at0_up (Nat.le_refl _), Nat.sub_self, at0_out (Nat.le_refl l.length)]
  grind
theorem upR_head : ∀ ks : List Rat, at0 (upR ks) 0 = 1
  | [] => rfl
  | k :: ks => by
    show at0 (up k (upR ks)) 0 = 1
    rw [up_head, upR_head ks]
theorem nx_smul {c : Rat} {l : List Rat} : nx (smul c l) = smul (c * c) (nx l) := ext0 (by rw [nx_len, smul_len, smul_len, nx_len]) fun i hi => by
  rw [nx_len, smul_len] at hi
  rw [at0_nx (by rw [smul_len]; exact hi), at0_smul, at0_smul, at0_smul, at0_smul, at0_smul, at0_nx hi, smul_len]
  grind
theorem sq_scale {c x y : Rat} (hc : c ≠ 0) : (c * x * (c * x) ≤ c * y * (c * y)) ↔ (x * x ≤ y * y) := by
  have hp : 0 < c * c := by
    rcases (by grind : c < 0 ∨ 0 < c) with h | h
    · have := Rat.mul_pos (show 0 < -c by grind) (show 0 < -c by grind)
      grind
    · exact Rat.mul_pos h h
  have e1 : c * x * (c * x) = (c * c) * (x * x) := by grind
  have e2 : c * y * (c * y) = (c * c) * (y * y) := by grind
  rw [e1, e2]
  constructor
  · intro h
    refine Classical.byContradiction fun z => ?_
    have h1 : 0 < x * x - y * y := by grind
    have h2 := Rat.mul_pos hp h1
    grind
  · intro h
    exact Rat.mul_le_mul_of_nonneg_left h (Rat.le_of_lt hp)
theorem fb_smul : ∀ (n : Nat) {c : Rat} (l : List Rat), c ≠ 0 → fb n (smul c l) = fb n l
  | 0, _, _, _ => rfl
  | n + 1, c, l, hc => by
    rw [fb_succ, fb_succ, at0_smul, at0_smul, smul_len, nx_smul, fb_smul n (nx l) (by grind : c * c ≠ 0)]
    have e : c * at0 l (l.length - 1) / (c * at0 l 0) = at0 l (l.length - 1) / at0 l 0 := by
      by_cases h : at0 l 0 = 0
      · rw [h]
        grind
      · grind
    rw [e]
    by_cases h : at0 l 0 * at0 l 0 ≤ at0 l (l.length - 1) * at0 l (l.length - 1)
    · rw [if_pos h, if_pos ((sq_scale hc).mpr h)]
    · rw [if_neg h, if_neg fun z => h ((sq_scale hc).mp z)]
theorem nx_up {k : Rat} {l : List Rat} (hl : at0 l 0 = 1) (hn : 0 < l.length) : nx (up k l) = smul (1 - k * k) l := ext0 (by rw [nx_len, up_len, smul_len]; omega) fun i hi => by
  rw [nx_len, up_len, Nat.add_sub_cancel] at hi
  rw [at0_nx (by rw [up_len]; omega), up_len, Nat.add_sub_cancel, up_head, up_last, hl, at0_up (by omega), at0_up (by omega), at0_smul, show l.length - (l.length - i) = i by omega]
  grind
theorem fb_up {n : Nat} {k : Rat} {l : List Rat} (hl : at0 l 0 = 1) (hn : l.length = n + 1) (hk : k * k < 1) : fb (n + 1) (up k l) = (fb n l).map (k :: ·) := by
  rw [fb_succ, up_len, Nat.add_sub_cancel, up_head, up_last, hl, nx_up hl (by omega), fb_smul n l (by grind), if_neg (by grind)]
  have : k * 1 / 1 = k := by grind
  rw [this]
theorem fb_upR : ∀ ks : List Rat, (∀ k ∈ ks, k * k < 1) → fb ks.length (upR ks) = some ks
  | [], _ => rfl
  | k :: ks, h => by
    show fb (ks.length + 1) (up k (upR ks)) = _
    rw [fb_up (upR_head ks) (upR_len ks) (h k List.mem_cons_self), fb_upR ks fun j hj => h j (List.mem_cons_of_mem _ hj)]
    rfl
/-- the next row, led -/
def dn (l : List Rat) : List Rat := smul (1 / (1 - at0 l (l.length - 1) * at0 l (l.length - 1))) (nx l)
theorem dn_len (l : List Rat) : (dn l).length = l.length - 1 := by
  unfold dn
  rw [smul_len, nx_len]
theorem dn_head {l : List Rat} (hl : at0 l 0 = 1) (hn : 2 ≤ l.length) (hk : at0 l (l.length - 1) * at0 l (l.length - 1) < 1) : at0 (dn l) 0 = 1 := by
  unfold dn
  rw [at0_smul, at0_nx (by omega), hl, Nat.sub_zero]
  grind
theorem up_dn {l : List Rat} (hl : at0 l 0 = 1) (hn : 2 ≤ l.length) (hk : at0 l (l.length - 1) * at0 l (l.length - 1) < 1) : up (at0 l (l.length - 1)) (dn l) = l := ext0 (by rw [up_len, dn_len]; omega) fun i hi => by
  rw [up_len, dn_len] at hi
  rw [at0_up (by rw [dn_len]; omega), dn_len]
  by_cases h0 : i = 0
  · subst h0
    rw [dn_head hl hn hk, at0_out (l := dn l) (by rw [dn_len]; omega), hl]
    grind
  · by_cases h1 : i = l.length - 1
    · rw [h1, at0_out (l := dn l) (by rw [dn_len]; omega), Nat.sub_self, dn_head hl hn hk]
      grind
    · unfold dn
      rw [at0_smul, at0_smul, at0_nx (by omega), at0_nx (by omega), hl, show l.length - 1 - (l.length - 1 - i) = i by omega]
      have hk' : 1 - at0 l (l.length - 1) * at0 l (l.length - 1) ≠ 0 := by grind
      grind
theorem fb_dn {n : Nat} {l : List Rat} (hl : at0 l 0 = 1) (hn : l.length = n + 2) : fb (n + 1) l = if 1 ≤ at0 l (l.length - 1) * at0 l (l.length - 1) then none else (fb n (dn l)).map (at0 l (l.length - 1) :: ·) := by
  rw [fb_succ, hl]
  have e : at0 l (l.length - 1) / 1 = at0 l (l.length - 1) := by grind
  have e2 : (1 : Rat) * 1 = 1 := by grind
  rw [e, e2]
  by_cases h : 1 ≤ at0 l (l.length - 1) * at0 l (l.length - 1)
  · rw [if_pos h, if_pos h]
  · rw [if_neg h, if_neg h]
    have h2 : (1 : Rat) / (1 - at0 l (l.length - 1) * at0 l (l.length - 1)) ≠ 0 := by grind
    unfold dn
    rw [fb_smul n _ h2]
theorem fb_len : ∀ (n : Nat) (l bs : List Rat), fb n l = some bs → bs.length = n
  | 0, _, bs, h => by
    unfold fb at h
    cases h
    rfl
  | n + 1, l, bs, h => by
    rw [fb_succ] at h
    split at h
    · cases h
    · obtain ⟨cs, h1, rfl⟩ := Option.map_eq_some_iff.mp h
      rw [List.length_cons, fb_len n _ _ h1]
/-- bits of the rows on the way down -/
def bitsD : Nat → Nat → Nat
  | 0, b => b
  | i + 1, b => bitsD i (5 * b + 3)
theorem qs_at0 {b : Nat} {l : List Rat} (h : Qs b l) (hb : 0 < b) (i : Nat) : Qz b (at0 l i) := by
  by_cases hi : i < l.length
  · exact h _ (at0_mem hi)
  · rw [at0_out (by omega)]
    exact qz0 hb
theorem qz_inv {b : Nat} {q : Rat} (h : Qz b q) (h0 : q ≠ 0) : Qz b (1 / q) := by
  have e : (1 : Rat) / q = Rat.divInt q.den q.num := by
    have hn : q.num ≠ 0 := fun z => h0 (Rat.num_eq_zero.mp z)
    have e1 : q = (q.num : Rat) / ((q.den : Int) : Rat) := by
      rw [← Rat.divInt_eq_div]
      exact (fr_self q).symm
    have h1 : (q.num : Rat) ≠ 0 := by exact_mod_cast hn
    have h2 : ((q.den : Int) : Rat) ≠ 0 := by have := q.den_nz; exact_mod_cast this
    rw [Rat.divInt_eq_div]
    have key : ∀ q n d : Rat, n ≠ 0 → d ≠ 0 → q = n / d → 1 / q = d / n := by
      intro q n d a b c
      subst c
      grind
    exact key _ _ _ h1 h2 e1
  rw [e]
  exact qz_div h.dd h.n fun z => h0 (Rat.num_eq_zero.mp z)
theorem qs_dn {b : Nat} {l : List Rat} (h : Qs b l) (hb : 0 < b) (hl : at0 l 0 = 1) (hk : ¬ 1 ≤ at0 l (l.length - 1) * at0 l (l.length - 1)) : Qs (5 * b + 3) (dn l) := fun c hc => by
  have q1 := qs_at0 h hb (l.length - 1)
  have q2 : Qz (2 * b + 2) (1 / (1 - at0 l (l.length - 1) * at0 l (l.length - 1))) := (qz_inv (Qz.sub (qz1 (Nat.one_pos)) (Qz.mul q1 q1)) (by grind)).mono (by omega)
  unfold dn smul at hc
  obtain ⟨d, hd, rfl⟩ := List.mem_map.mp hc
  unfold nx at hd
  obtain ⟨i, _, rfl⟩ := List.mem_map.mp hd
  rw [hl]
  have e : (1 : Rat) * at0 l i = at0 l i := by grind
  rw [e]
  exact (Qz.mul q2 (Qz.sub (qs_at0 h hb i) (Qz.mul q1 (qs_at0 h hb _)))).mono (by omega)
/-- rows of the last bends: those on the way down -/
theorem fb_way : ∀ (n : Nat) (l bs : List Rat) (b : Nat), 0 < b → at0 l 0 = 1 → l.length = n + 1 → Qs b l → fb n l = some bs → upR bs = l ∧ (∀ k ∈ bs, k * k < 1) ∧ (∀ i, i ≤ n → Qs (bitsD i b) (upR (bs.drop i))) ∧ ∀ i, i < n → Qz (bitsD i b) (at0 bs i)
  | 0, l, bs, b, hb, hl, hn, hq, h => by
    unfold fb at h
    cases h
    have e : l = [1] := by
      match l, hn, hl with
      | [c], _, hl =>
        have : c = 1 := hl
        rw [this]
    subst e
    refine ⟨rfl, (fun k hk => by cases hk), fun i hi => ?_, fun i hi => absurd hi (Nat.not_lt_zero _)⟩
    have : i = 0 := by omega
    subst this
    exact hq
  | n + 1, l, bs, b, hb, hl, hn, hq, h => by
    rw [fb_dn hl hn] at h
    split at h
    · cases h
    · rename_i hk
      obtain ⟨cs, h1, rfl⟩ := Option.map_eq_some_iff.mp h
      have hk' : at0 l (l.length - 1) * at0 l (l.length - 1) < 1 := by grind
      obtain ⟨e1, e2, e3, e4⟩ := fb_way n (dn l) cs (5 * b + 3) (by omega) (dn_head hl (by omega) hk') (by rw [dn_len]; omega) (qs_dn hq hb hl hk) h1
      refine ⟨?_, fun k hk2 => ?_, fun i hi => ?_, fun i hi => ?_⟩
      · show up _ (upR cs) = l
        rw [e1, up_dn hl (by omega) hk']
      · rcases List.mem_cons.mp hk2 with rfl | h'
        · exact hk'
        · exact e2 k h'
      · cases i with
        | zero =>
          show Qs b (up _ (upR cs))
          rw [e1, up_dn hl (by omega) hk']
          exact hq
        | succ i => exact e3 i (by omega)
      · cases i with
        | zero =>
          show Qz b (at0 l (l.length - 1))
          exact qs_at0 hq hb _
        | succ i => exact e4 i (by omega)
theorem tr_upR {k : Rat} {ks : List Rat} (hk : k ≠ 0) : Tr (upR (k :: ks)) := fun hn => by
  rw [List.getLast_eq_getElem]
  have e : (upR (k :: ks)).length - 1 = (upR ks).length := by
    show (up k (upR ks)).length - 1 = _
    rw [up_len, Nat.add_sub_cancel]
  have h : (upR (k :: ks))[(upR (k :: ks)).length - 1]? = some (at0 (upR (k :: ks)) ((upR (k :: ks)).length - 1)) := at0_get (by have := List.length_pos_iff.mpr hn; omega)
  rw [List.getElem?_eq_getElem (by have := List.length_pos_iff.mpr hn; omega)] at h
  have h2 := Option.some.inj h
  rw [h2, e]
  show at0 (up k (upR ks)) (upR ks).length ≠ 0
  rw [up_last, upR_head]
  grind
/-! rows over one divisor -/
def Cd (a b : Nat) (l : List Rat) : Prop := ∃ D : Nat, 0 < D ∧ D ≤ 2 ^ a ∧ ∀ c ∈ l, ∃ n : Int, c * (D : Rat) = (n : Rat) ∧ n.natAbs ≤ 2 ^ b
theorem cd_at {a b : Nat} {l : List Rat} {D : Nat} (h : ∀ c ∈ l, ∃ n : Int, c * (D : Rat) = (n : Rat) ∧ n.natAbs ≤ 2 ^ b) (i : Nat) : ∃ n : Int, at0 l i * (D : Rat) = (n : Rat) ∧ n.natAbs ≤ 2 ^ b := by
  by_cases hi : i < l.length
  · exact h _ (at0_mem hi)
  · rw [at0_out (by omega)]
    exact ⟨0, by push_cast; grind, Nat.zero_le _⟩
theorem cd_up {a b : Nat} {k : Rat} {l : List Rat} (h : Cd a b l) (hk : k.den ≤ 8) (hk2 : k.num.natAbs < k.den) : Cd (a + 3) (b + 4) (up k l) := by
  obtain ⟨D, h0, h1, h2⟩ := h
  have hd := k.den_pos
  refine ⟨D * k.den, Nat.mul_pos h0 hd, ?_, fun c hc => ?_⟩
  · rw [Nat.pow_add]
    exact Nat.mul_le_mul h1 hk
  · unfold up at hc
    obtain ⟨i, _, rfl⟩ := List.mem_map.mp hc
    obtain ⟨n1, e1, g1⟩ := cd_at (a := a) h2 i
    obtain ⟨n2, e2, g2⟩ := cd_at (a := a) h2 (l.length - i)
    refine ⟨n1 * k.den + k.num * n2, ?_, ?_⟩
    · have ek : k * (k.den : Rat) = (k.num : Rat) := by
        have : k = (k.num : Rat) / ((k.den : Int) : Rat) := by
          rw [← Rat.divInt_eq_div]
          exact (fr_self k).symm
        have h3 : ((k.den : Int) : Rat) ≠ 0 := by have := k.den_nz; exact_mod_cast this
        have key : ∀ k n d : Rat, d ≠ 0 → k = n / d → k * d = n := by
          intro k n d a b
          grind
        have := key _ _ _ h3 this
        push_cast at this
        exact this
      push_cast
      grind
    · have p : (n1 * (k.den : Int)).natAbs ≤ 2 ^ b * 8 := by
        rw [Int.natAbs_mul]
        exact Nat.mul_le_mul g1 (by omega)
      have p2 : (k.num * n2).natAbs ≤ 8 * 2 ^ b := by
        rw [Int.natAbs_mul]
        exact Nat.mul_le_mul (by omega) g2
      rw [Nat.pow_add]
      omega
theorem cd_upR : ∀ ks : List Rat, (∀ k ∈ ks, k.den ≤ 8 ∧ k.num.natAbs < k.den) → Cd (3 * ks.length) (4 * ks.length) (upR ks)
  | [], _ => ⟨1, by decide, by decide, fun c hc => ⟨1, by rw [List.mem_singleton.mp hc]; push_cast; grind, by decide⟩⟩
  | k :: ks, h => by
    have := cd_up (cd_upR ks fun j hj => h j (List.mem_cons_of_mem _ hj)) (h k List.mem_cons_self).1 (h k List.mem_cons_self).2
    show Cd _ _ (up k (upR ks))
    rw [List.length_cons, Nat.mul_add, Nat.mul_add]
    exact this
theorem cd_qs {a b c : Nat} {l : List Rat} (h : Cd a b l) (ha : a < c) (hb : b < c) : Qs c l := fun q hq => by
  obtain ⟨D, h0, h1, h2⟩ := h
  obtain ⟨n, e, g⟩ := h2 q hq
  have hD : ((D : Int) : Rat) ≠ 0 := by exact_mod_cast (show (D : Int) ≠ 0 by omega)
  have e2 : q = Rat.divInt n D := by
    rw [Rat.divInt_eq_div]
    have key : ∀ q d n : Rat, d ≠ 0 → q * d = n → q = n / d := by
      intro q d n a b
      grind
    exact key _ _ _ hD (by push_cast; exact e)
  rw [e2]
  have p1 : 2 ^ b < 2 ^ c := Nat.pow_lt_pow_right (by decide) hb
  have p2 : 2 ^ a < 2 ^ c := Nat.pow_lt_pow_right (by decide) ha
  exact qz_div (by omega) (show ((D : Nat) : Int).natAbs < 2 ^ c by rw [Int.natAbs_natCast]; omega) (by omega)
theorem small_sq {k : Rat} (h : k.num.natAbs < k.den) : k * k < 1 := by
  have hd := k.den_pos
  have ek : k = (k.num : Rat) / ((k.den : Int) : Rat) := by
    rw [← Rat.divInt_eq_div]
    exact (fr_self k).symm
  have hdp : (0 : Rat) < ((k.den : Int) : Rat) := by exact_mod_cast (show (0 : Int) < (k.den : Int) by omega)
  have hi : k.num * k.num < (k.den : Int) * (k.den : Int) := by
    have e1 : k.num * k.num = ((k.num.natAbs * k.num.natAbs : Nat) : Int) := (Int.natAbs_mul_self).symm
    rw [e1]
    have := Nat.mul_lt_mul'' h h
    exact_mod_cast this
  have hr : (k.num : Rat) * (k.num : Rat) < ((k.den : Int) : Rat) * ((k.den : Int) : Rat) := by exact_mod_cast hi
  have key : ∀ k n d : Rat, 0 < d → k = n / d → n * n < d * d → k * k < 1 := by
    intro k n d h1 h2 h3
    have e : k * d = n := by grind
    refine Classical.byContradiction fun z => ?_
    have z1 : 0 ≤ k * k - 1 := by grind
    have z2 := Rat.mul_nonneg z1 (Rat.le_of_lt (Rat.mul_pos h1 h1))
    have z3 : (k * d) * (k * d) < d * d := by rw [e]; exact h3
    grind
  exact key _ _ _ hdp ek hr
theorem small_of_sq {k : Rat} (h : k * k < 1) : k.num.natAbs < k.den := by
  refine Classical.byContradiction fun z => ?_
  have hd := k.den_pos
  have ek : k = (k.num : Rat) / ((k.den : Int) : Rat) := by
    rw [← Rat.divInt_eq_div]
    exact (fr_self k).symm
  have hdp : (0 : Rat) < ((k.den : Int) : Rat) := by exact_mod_cast (show (0 : Int) < (k.den : Int) by omega)
  have hi : (k.den : Int) * (k.den : Int) ≤ k.num * k.num := by
    have e1 : k.num * k.num = ((k.num.natAbs * k.num.natAbs : Nat) : Int) := (Int.natAbs_mul_self).symm
    rw [e1]
    have := Nat.mul_le_mul (Nat.le_of_not_lt z) (Nat.le_of_not_lt z)
    exact_mod_cast this
  have hr : ((k.den : Int) : Rat) * ((k.den : Int) : Rat) ≤ (k.num : Rat) * (k.num : Rat) := by exact_mod_cast hi
  have key : ∀ k n d : Rat, 0 < d → k = n / d → d * d ≤ n * n → ¬ k * k < 1 := by
    intro k n d h1 h2 h3 h4
    have e : k * d = n := by grind
    have z1 : 0 < 1 - k * k := by grind
    have z2 := Rat.mul_pos z1 (Rat.mul_pos h1 h1)
    have z3 : d * d ≤ (k * d) * (k * d) := by rw [e]; exact h3
    grind
  exact key _ _ _ hdp ek hr h
end Vx
namespace Vx
open PySem PySem.Spec PyProof.Rows L2
theorem fm_congr {α β : Type} {f g : α → Option β} : ∀ {l : List α}, (∀ a ∈ l, f a = g a) → l.filterMap f = l.filterMap g
  | [], _ => rfl
  | a :: l, h => by
    rw [List.filterMap_cons, List.filterMap_cons, h a List.mem_cons_self, fm_congr fun b hb => h b (List.mem_cons_of_mem _ hb)]
section
variable {prog : Program} {w : World} {A : Around} {E : Value → Shared → Prop} {s : Shared}
theorem sliceApplied_rev {sl : Addr} {vs : Value} {n : Nat} {Q : Int × Int × Nat → Shared → Prop} (hs : s.heap.IsSliceOf sl .none .none vs) (ps : IsPart vs (some (-1)))
    (h : Q ((n : Int) - 1, -1, n) s) : wpAny (model prog w) A (Builtin.Slice.sliceApplied (.ref sl) (pure (n : Int))) Q E s := by
  obtain ⟨os, hos, hcs, hds⟩ := id hs
  unfold Builtin.Slice.sliceApplied Builtin.Slice.sliceFields
  refine wpAny_bind (wpAny_bind (wpAny_field hos hds (x := .none) rfl (wpAny_bind (wpAny_field hos hds (x := .none) rfl (wpAny_bind (wpAny_field hos hds (x := vs) rfl (wpAny_pure ?_)))))))
  refine wpAny_bind (HT.slicePart_ ps ?_)
  show wpAny _ _ (if ((-1 : Int) == 0) = true then _ else _) _ _ s
  rw [if_neg (by decide)]
  refine wpAny_bind (slicePart_none (wpAny_bind (slicePart_none (wpAny_bind (wpAny_pure ?_)))))
  show wpAny _ _ (match Builtin.Slice.sliceAdjust none none (-1) (n : Int) with | (lo, hi) => pure (lo, (-1 : Int), Builtin.Slice.slicePlaces lo hi (-1))) _ _ s
  have e1 : Builtin.Slice.sliceAdjust none none (-1) (n : Int) = ((n : Int) - 1, -1) := by
    unfold Builtin.Slice.sliceAdjust
    simp
  rw [e1]
  show wpAny _ _ (pure ((n : Int) - 1, (-1 : Int), Builtin.Slice.slicePlaces ((n : Int) - 1) (-1) (-1))) _ _ s
  have e2 : Builtin.Slice.slicePlaces ((n : Int) - 1) (-1) (-1) = n := by
    unfold Builtin.Slice.slicePlaces
    simp only [show ¬ ((-1 : Int) > 0) by decide, if_false]
    split
    · rw [show (- -1 : Int) = 1 by decide, Int.ediv_one]
      omega
    · omega
  rw [e2]
  exact wpAny_pure h
theorem pick_rev (xs : Array Value) : ((List.range xs.size).filterMap fun (m : Nat) => xs[(((xs.size : Nat) : Int) - 1 + (m : Int) * -1).toNat]?).toArray = xs.toList.reverse.toArray := by
  have e : ∀ m ∈ List.range xs.size, xs[(((xs.size : Nat) : Int) - 1 + (m : Int) * -1).toNat]? = xs[xs.size - 1 - m]? := fun m hm => by
    have := List.mem_range.mp hm
    have : (((xs.size : Nat) : Int) - 1 + (m : Int) * -1).toNat = xs.size - 1 - m := by omega
    rw [this]
  have e2 : (List.range xs.size).filterMap (fun (m : Nat) => xs[(((xs.size : Nat) : Int) - 1 + (m : Int) * -1).toNat]?) = (List.range xs.size).filterMap (fun m => xs[xs.size - 1 - m]?) :=
    fm_congr e
  rw [e2]
  have e3 : (List.range xs.size).filterMap (fun m => xs[xs.size - 1 - m]?) = ((List.range xs.size).map fun m => xs.size - 1 - m).filterMap (xs[·]?) := by
    rw [List.filterMap_map]
    rfl
  rw [e3, PySem.W.krv_range, List.filterMap_reverse, PySem.W.krv_all]
theorem getItem_tuple_rev {t sl : Addr} {items : Array Value} {vs : Value} {Q : Value → Shared → Prop} (ht : IsTup s.heap t items) (hs : s.heap.IsSliceOf sl .none .none vs) (ps : IsPart vs (some (-1)))
    (h : Q (.ref s.heap.objs.size) { s with heap := s.heap.push { cls := .type "tuple", data := .seq items.toList.reverse.toArray } })
    (hsz : items.size ≤ sizeLine) : wpAny (model prog w) A (getItem (.ref t) (.ref sl)) Q E s := by
  have htake : sizeOk (.seq items.toList.reverse.toArray) := by
    show items.toList.reverse.toArray.size ≤ sizeLine
    rw [List.size_toArray, List.length_reverse, Array.length_toList]
    exact hsz
  obtain ⟨os, hos, hcs, hds⟩ := id hs
  have hTs : s.TypeIs (.ref sl) "slice" := ⟨os, hos, hcs⟩
  unfold getItem
  try with_reducible refine wpAny_holding ?_
  first | refine wpAny_bind (wpAny_pure ?_) | skip
  refine wpAny_bind (wpAny_sequenceKey ht.typeIs (by decide) ?_)
  refine wpAny_bind (wpAny_callSpecial?_slot (name := Str.ofString "__getitem__") ht.typeIs PyProof.Rows.slot_tuple_getitem
    (wpAny_call_entry PyProof.Rows.slot_tuple_getitem ht.typeIs entry_tuple_getitem ?_ (args_tuple_getitem _ _)))
  show wpAny _ _ (Builtin.Tuple.tupleItemsOf (.ref t) >>= _) _ _ s
  refine wpAny_bind (tupleItemsOf_ ht ?_)
  refine wpAny_bind (wpAny_typeOf hTs ?_)
  rw [if_pos (by decide)]
  refine wpAny_bind (sliceApplied_rev hs ps ?_)
  have hno : ¬ ((((items.size : Nat) : Int) - 1 == 0 && (-1 : Int) == 1 && items.size == items.size) = true) := by simp
  show wpAny _ _ (if (((items.size : Nat) : Int) - 1 == 0 && (-1 : Int) == 1 && items.size == items.size) = true then _ else _) _ _ s
  rw [if_neg hno, pick_rev]
  first
    | exact wpAny_bind (m := Builtin.Tuple.tupleExact _) (wpAny_newObj_type (wpAny_pure ⟨_, rfl, wpAny_pure h⟩) htake)
    | exact wpAny_bind (m := Builtin.Tuple.tupleExact _) (wpAny_newObj_type (wpAny_bind (wpAny_pure (wpAny_pure ⟨_, rfl, wpAny_pure h⟩))) htake)
    | exact wpAny_bind (wpAny_bind (m := Builtin.Tuple.tupleExact _) (wpAny_newObj_type (wpAny_pure (wpAny_pure ⟨_, rfl, wpAny_pure h⟩)) htake))
    | exact wpAny_bind (wpAny_bind (m := Builtin.Tuple.tupleExact _) (wpAny_newObj_type (wpAny_pure ⟨_, rfl, wpAny_pure h⟩) htake))
theorem krv_pick0 (items : Array Value) (h : 0 < items.size) : slicePick items none (some 0) (some (-1)) = (items.toList.drop 1).reverse.toArray := by
  have hb : sliceBounds none (some 0) (some (-1)) items.size = ((items.size : Int) - 1, 0, -1) := by
    simp only [sliceBounds, Option.getD_some, show ¬ ((-1 : Int) > 0) by decide, if_false, show ¬ ((0 : Int) < 0) by decide]
    refine Prod.ext rfl (Prod.ext ?_ rfl)
    show max (-1 : Int) (min 0 ((items.size : Int) - 1)) = 0
    omega
  unfold slicePick
  rw [hb]
  show ((sliceRange ((items.size : Int) - 1) 0 (-1)).filterMap (items[·]?)).toArray = _
  have hr : sliceRange ((items.size : Int) - 1) 0 (-1) = (List.range (items.size - 1)).map fun k => items.size - 1 - k := by
    unfold sliceRange
    have h1 : ¬ ((-1 : Int) > 0) := by decide
    by_cases h2 : (items.size : Int) - 1 > 0
    · have e : ((items.size : Int) - 1 - 0 - -1 - 1) / (- -1) = ((items.size - 1 : Nat) : Int) := by
        rw [show (- -1 : Int) = 1 by decide, Int.ediv_one]
        omega
      simp only [h1, if_false, h2, if_true, e, Int.toNat_natCast]
      apply List.map_congr_left
      intro k hk
      have := List.mem_range.mp hk
      omega
    · have e : items.size - 1 = 0 := by omega
      rw [e]
      simp only [h1, if_false, h2, if_false]
      rfl
  rw [hr]
  have e4 : ((List.range (items.size - 1)).map fun k => items.size - 1 - k) = ((List.range (items.size - 1)).map fun k => k + 1).reverse := by
    refine List.ext_getElem? fun i => ?_
    by_cases hi : i < items.size - 1
    · rw [List.getElem?_map, List.getElem?_range hi, List.getElem?_reverse (by simpa using hi)]
      simp only [List.length_map, List.length_range, List.getElem?_map, Option.map_some]
      rw [List.getElem?_range (by omega)]
      simp only [Option.map_some]
      exact congrArg some (by omega)
    · rw [List.getElem?_eq_none (by simp; omega), List.getElem?_eq_none (by simp; omega)]
  rw [e4, List.filterMap_reverse]
  have e5 : ((List.range (items.size - 1)).map fun k => k + 1).filterMap (items[·]?) = items.toList.drop 1 := by
    have := pick_run items 1 (items.size - 1)
    rw [show ((1 + ·) : Nat → Nat) = fun k => k + 1 from funext fun k => Nat.add_comm 1 k] at this
    rw [this, List.take_of_length_le]
    rw [List.length_drop, Array.length_toList]
    omega
  rw [e5]
end
/-! ### as terms -/
def tRevT (K : PySem.W.Frag) (te : TE) : TE := fun σ H Q => te σ H fun x H1 => ∃ a xs, x = .ref a ∧ SqT K H1 a xs ∧ ∀ p, H1 p = none → Q (.ref p) (upd H1 p (.tup xs.reverse))
theorem pe_revT {X : Cx} {e : Expr} {te : TE} {k : Nat} {p1 p2 p3 pos : Pos} (he : PE X e te) : PE X (.Subscript e (.Slice none none (some (.UnaryOp .USub (.Constant (.int 1) k p1) p2)) p3) pos) (tRevT X.K te) := by
  refine ⟨fun pins s σ H Q I h => ?_⟩
  refine Subscript_ (thn (he.run pins s σ H _ I h) fun v s1 ⟨x, H1, I1, r1, q1⟩ => ?_)
  obtain ⟨a, xs, ex, hx, q⟩ := q1
  subst ex
  cases r1
  have hst : PO X (some (.UnaryOp .USub (.Constant (.int 1) k p1) p2)) (tPart (tUn (rU fun i => .int (-i)) (tC (.int 1)))) := po_some (pe_un un_neg pe_int)
  refine wpAny_Slice (thn (po_none.run pins s1 σ H1 (fun o H2 => o = none ∧ H2 = H1) I1 ⟨rfl, rfl⟩) fun vl s2 ⟨l, H2, I2, pl, el, e2⟩ => ?_)
  subst el e2
  refine thn (po_none.run pins s2 σ H2 (fun o H3 => o = none ∧ H3 = H2) I2 ⟨rfl, rfl⟩) fun vu s3 ⟨u, H3, I3, pu, eu, e3⟩ => ?_
  subst eu e3
  refine thn (hst.run pins s3 σ H3 (fun o H4 => o = some (-1) ∧ H4 = H3) I3 ⟨1, rfl, -1, rfl, rfl, rfl⟩) fun vs s4 ⟨o, H4, I4, ps, eo, e4⟩ => ?_
  subst eo e4
  have I5 : Inv X pins σ H4 { s4 with heap := s4.heap.push { cls := .type "slice", data := .fields #[vl, vu, vs] } } := I4.kept (t' := s4.toks) fun b ob q => Heap.get?_push_of_some _ q
  obtain ⟨its, r, ht, hz⟩ := I5.tuple hx
  have hlen := r.length
  cases pl
  cases pu
  show wpAny (model X.prog X.w) X.A (subscriptTail e (.Slice none none (some (.UnaryOp .USub (.Constant (.int 1) k p1) p2)) p3) (.ref a) (.ref s4.heap.objs.size)) (EP X pins σ Q) X.xe { s4 with heap := s4.heap.push { cls := .type "slice", data := .fields #[.none, .none, vs] } }
  refine tail_any (ops := [.ref a, .ref s4.heap.objs.size]) ht.typeIs (PyProof.Rows.slot_tuple_getitem.lookup) ?_ (by with_unfolding_all rfl)
  refine getItem_tuple_rev ht (Heap.IsSliceOf.new _ .none .none vs) ps ?_ (by rw [List.size_toArray]; omega)
  refine ⟨.ref _, _, I5.laid (t' := s4.toks) (o := .tup xs.reverse) (fun b ob q => Heap.get?_push_of_some _ q) (Nat.le_refl _) ?_, rfl, q _ (I5.hok.fresh (Nat.le_refl _))⟩
  exact ⟨by rw [List.length_reverse]; exact hz, _, r.reverse, IsTup.new _ _⟩
def tRev0 (K : PySem.W.Frag) (te : TE) : TE := fun σ H Q => te σ H fun x H1 => ∃ a xs, x = .ref a ∧ SqL K H1 a xs ∧ xs ≠ [] ∧ ∀ p, H1 p = none → Q (.ref p) (upd H1 p (.lst (xs.drop 1).reverse))
theorem pe_rev0 {X : Cx} {e : Expr} {te : TE} {k k0 : Nat} {p0 p1 p2 p3 pos : Pos} (he : PE X e te) : PE X (.Subscript e (.Slice none (some (.Constant (.int 0) k0 p0)) (some (.UnaryOp .USub (.Constant (.int 1) k p1) p2)) p3) pos) (tRev0 X.K te) := by
  refine ⟨fun pins s σ H Q I h => ?_⟩
  refine Subscript_ (thn (he.run pins s σ H _ I h) fun v s1 ⟨x, H1, I1, r1, q1⟩ => ?_)
  obtain ⟨a, xs, ex, hx, hne, q⟩ := q1
  subst ex
  cases r1
  have hst : PO X (some (.UnaryOp .USub (.Constant (.int 1) k p1) p2)) (tPart (tUn (rU fun i => .int (-i)) (tC (.int 1)))) := po_some (pe_un un_neg pe_int)
  have h0 : PO X (some (.Constant (.int 0) k0 p0)) (tPart (tC (.int 0))) := po_some pe_int
  refine wpAny_Slice (thn (po_none.run pins s1 σ H1 (fun o H2 => o = none ∧ H2 = H1) I1 ⟨rfl, rfl⟩) fun vl s2 ⟨l, H2, I2, pl, el, e2⟩ => ?_)
  subst el e2
  refine thn (h0.run pins s2 σ H2 (fun o H3 => o = some 0 ∧ H3 = H2) I2 ⟨0, rfl, rfl, rfl⟩) fun vu s3 ⟨u, H3, I3, pu, eu, e3⟩ => ?_
  subst eu e3
  refine thn (hst.run pins s3 σ H3 (fun o H4 => o = some (-1) ∧ H4 = H3) I3 ⟨1, rfl, -1, rfl, rfl, rfl⟩) fun vs s4 ⟨o, H4, I4, ps, eo, e4⟩ => ?_
  subst eo e4
  have I5 : Inv X pins σ H4 { s4 with heap := s4.heap.push { cls := .type "slice", data := .fields #[vl, vu, vs] } } := I4.kept (t' := s4.toks) fun b ob q => Heap.get?_push_of_some _ q
  obtain ⟨its, r, ht, hz⟩ := I5.list hx
  have hlen := r.length
  have hpos : 0 < its.toArray.size := by
    rw [List.size_toArray]
    have := List.length_pos_iff.mpr hne
    omega
  show wpAny (model X.prog X.w) X.A (subscriptTail e (.Slice none (some (.Constant (.int 0) k0 p0)) (some (.UnaryOp .USub (.Constant (.int 1) k p1) p2)) p3) (.ref a) (.ref s4.heap.objs.size)) (EP X pins σ Q) X.xe { s4 with heap := s4.heap.push { cls := .type "slice", data := .fields #[vl, vu, vs] } }
  refine tail_any (ops := [.ref a, .ref s4.heap.objs.size]) ht.isList.typeIs (PySem.slot_list_getitem.lookup) ?_ (by with_unfolding_all rfl)
  refine wpAny_getItem_list_slice ht.isList (Heap.IsSliceOf.new _ vl vu vs) pl pu ps (by decide) ?_ (by rw [List.size_toArray]; omega)
  rw [krv_pick0 _ hpos]
  refine ⟨.ref _, _, I5.laid (t' := s4.toks) (o := .lst (xs.drop 1).reverse) (fun b ob q => Heap.get?_push_of_some _ q) (Nat.le_refl _) ?_, rfl, q _ (I5.hok.fresh (Nat.le_refl _))⟩
  exact ⟨by rw [List.length_reverse, List.length_drop]; omega, _, 0, (r.drop 1).reverse, Heap.get?_push_size _ rfl⟩
end Vx
namespace Vx
open PySem PySem.Spec PyProof.Rows L2
section
variable {X : Cx}
def Kw1 (fd : FuncData) (ps : List Str) (k1 : Str) : Prop := ∀ (s : Shared) (u : Value), BindsTo s fd ⟨[], [(k1, u)]⟩ (ps.zip [u])
structure Dj (P : Program) (w : World) (K : PySem.W.Frag) (mg : Str → Option Value) (base : Heap) (x : Str) (k : Nat) (ps : List Str) (k1 : Str) (sp : Sp) : Prop where
  ex : ∃ f fd, FnOk P w K mg base CX0 k f fd ps sp ∧ mg x = some (.ref f) ∧ PySem.W.keepIn K (.ref f) = true ∧ Binds K fd ps [] ∧ Kw1 fd ps k1
theorem Dj.df {P : Program} {w : World} {K : PySem.W.Frag} {mg : Str → Option Value} {base : Heap} {x : Str} {k : Nat} {ps : List Str} {k1 : Str} {sp : Sp} (D : Dj P w K mg base x k ps k1 sp) : Df P w K mg base x k ps sp := by
  obtain ⟨f, fd, F, a, b, c, _⟩ := D.ex
  exact ⟨f, fd, F, a, b, c⟩
def tKw1 (sp : Sp) (tk : TA) : TE := fun σ H Q => tk σ H fun zs H2 => ∃ a, zs = [a] ∧ sp [a] H2 Q E0
variable {k : Nat} {ps : List Str} {sp : Sp} {x k1 : Str} {p pos p1 : Pos} {e1 : Expr} {tk : TA}
theorem pe_kw1 (D : Dj X.prog X.w X.K X.mg X.base x k ps k1 sp) (hr : Room k X.A) (hg : Gl X x) (hkw : PK X [⟨some k1, e1, p1⟩] tk)
    (hdb : (x == ("__debug__" : Str)) = false := by decide)
    (hall : (backToKw pos (keywordEach [⟨some k1, e1, p1⟩] X.env)).all (·.1.isSome) = true := by rfl)
    (hks : (backToKw pos (keywordEach [⟨some k1, e1, p1⟩] X.env)).filterMap (·.1) = [k1] := by rfl)
    (hpl : ((backTo pos (starEach [] X.env)).any (·.1) || (backToKw pos (keywordEach [⟨some k1, e1, p1⟩] X.env)).any (·.1.isNone)) = false := by rfl) :
    PE X (.Call (.Name x p) [] [⟨some k1, e1, p1⟩] pos) (tKw1 sp tk) := by
  obtain ⟨f, fd, F, hm, hk, _, hb⟩ := D.ex
  refine ⟨fun pins s σ H Q I h => ?_⟩
  refine wpAny_Call_Name_kw (ld_glob I hg hm ?_ hdb)
  refine PySem.W.callWith_KW0 (h₀ := X.base) I.ok.mod.kin hk hall ?_ hpl
  refine thn (hkw.run pos pins s σ H _ I h) fun ws s2 ⟨zs, H2, I2, rz, a, ez, q2⟩ => ⟨I2.kIn, ?_⟩
  subst ez
  rw [hks]
  obtain ⟨u, rfl, ra⟩ := vals1 rz
  refine wpAny_call (codeAny_mono (F.run X.A X.stack s2 H2 ⟨[], [(k1, u)]⟩ [u] [a] Q E0 hr I2.env0 (hb s2 u) (.cons ra .nil) q2) fun r s' hq => ?_)
  cases r with
  | error e => exact pass0 pins σ H2 s2 e s' I2 hq
  | ok fl =>
    cases fl with
    | ret u => exact I2.after hq
    | next => exact False.elim hq
    | brk => exact False.elim hq
    | cont => exact False.elim hq
end
theorem rSlA_none {K : PySem.W.Frag} {H : Hp} {x : V} {qs : List Rat} (h : RwT K H x qs) : qs.length < 1000 → True := fun _ => trivial
/-- one number over another, by whole numbers -/
theorem fr_neg2 {n m : Int} (hm : m < 0) : 0 - n.fdiv ((n.natAbs.gcd m.natAbs : Nat) : Int) = (Rat.divInt n m).num ∧ 0 - m.fdiv ((n.natAbs.gcd m.natAbs : Nat) : Int) = ((Rat.divInt n m).den : Int) := by
  obtain ⟨a, b⟩ := fr_neg (n := n) hm
  rw [← a, ← b]
  have d1 : ((n.natAbs.gcd m.natAbs : Nat) : Int) ∣ n := Int.gcd_dvd_left n m
  have d2 : ((n.natAbs.gcd m.natAbs : Nat) : Int) ∣ m := Int.gcd_dvd_right n m
  have hg0 : 0 < n.natAbs.gcd m.natAbs := Nat.gcd_pos_of_pos_right _ (by omega)
  generalize n.natAbs.gcd m.natAbs = g at *
  obtain ⟨n', rfl⟩ := d1
  obtain ⟨m', rfl⟩ := d2
  have hgi : (g : Int) ≠ 0 := by omega
  have key : ∀ y : Int, 0 - ((g : Int) * y).fdiv (g : Int) = ((g : Int) * y).fdiv (-(g : Int)) := fun y => by
    rw [Int.mul_fdiv_cancel_left _ hgi, show (g : Int) * y = (-(g : Int)) * (-y) by grind, Int.mul_fdiv_cancel_left _ (by omega)]
    omega
  exact ⟨key n', key m'⟩
/-- whole numbers: their greatest divisor -/
theorem toR_at (ns : List Int) (i : Nat) : at0 (toR ns) i = ((ns.getD i 0 : Int) : Rat) := by
  unfold at0 toR
  rw [List.getD_eq_getElem?_getD, List.getD_eq_getElem?_getD, List.getElem?_map]
  cases ns[i]? with
  | none => show (0 : Rat) = ((0 : Int) : Rat); push_cast; rfl
  | some n => rfl
theorem toR_len (ns : List Int) : (toR ns).length = ns.length := List.length_map _
theorem toR_div {ns : List Int} {g : Int} (h0 : g ≠ 0) (hd : ∀ n ∈ ns, g ∣ n) : toR (ns.map fun n => n.fdiv g) = smul (1 / (g : Rat)) (toR ns) := by
  unfold toR smul
  rw [List.map_map, List.map_map]
  refine List.map_congr_left fun n hn => ?_
  obtain ⟨k, rfl⟩ := hd n hn
  show (((g * k).fdiv g : Int) : Rat) = 1 / (g : Rat) * ((g * k : Int) : Rat)
  rw [Int.mul_fdiv_cancel_left _ h0]
  have hr : (g : Rat) ≠ 0 := by exact_mod_cast h0
  push_cast
  grind
end Vx
namespace Vx
open PySem PySem.Spec PyProof.Rows L2
theorem ix_tupK {X : Cx} {K : PySem.W.Frag} (h : X.K = K) : IxR X (rIxT K) := h ▸ ix_tup
theorem ix_listK {X : Cx} {K : PySem.W.Frag} (h : X.K = K) : IxR X (rIxL K) := h ▸ ix_list
end Vx
namespace Vx
open PySem PySem.Spec PyProof.Rows L2
theorem if_tt {A B : Prop} (q : A) : if true = true then A else B := q
theorem ixn_of {n k : Nat} (h : k < n) : ixN n (k : Int) = some k := by
  unfold ixN
  rw [if_pos (by omega), if_pos (by omega)]
  exact congrArg some (by omega)
end Vx
namespace Vx
/-- two of n + 1 things in n places stand in one -/
theorem pigeons : ∀ (n : Nat) (f : Nat → Nat), (∀ i, i ≤ n → f i < n) → ∃ i j, i < j ∧ j ≤ n ∧ f i = f j
  | 0, f, h => absurd (h 0 (Nat.le_refl _)) (Nat.not_lt_zero _)
  | n + 1, f, h => by
    by_cases hc : ∃ i, i ≤ n ∧ f i = f (n + 1)
    · obtain ⟨i, hi, e⟩ := hc
      exact ⟨i, n + 1, by omega, Nat.le_refl _, e⟩
    · have hne : ∀ i, i ≤ n → f i ≠ f (n + 1) := fun i hi e => hc ⟨i, hi, e⟩
      have hl := h (n + 1) (Nat.le_refl _)
      obtain ⟨i, j, hij, hj, e⟩ := pigeons n (fun i => if f i < f (n + 1) then f i else f i - 1) fun i hi => by
        have h1 := h i (by omega)
        have h2 := hne i hi
        show (if f i < f (n + 1) then f i else f i - 1) < n
        split <;> omega
      have h1 := hne i (by omega)
      have h2 := hne j hj
      refine ⟨i, j, hij, by omega, ?_⟩
      have e' : (if f i < f (n + 1) then f i else f i - 1) = (if f j < f (n + 1) then f j else f j - 1) := e
      split at e' <;> split at e' <;> omega
/-! numbers by their digits -/
def dig (B : Nat) : Nat → Nat → List Nat
  | 0, _ => []
  | k + 1, c => c % B :: dig B k (c / B)
def dval (B : Nat) : List Nat → Nat
  | [] => 0
  | d :: l => d + B * dval B l
theorem dig_len (B : Nat) : ∀ (k c : Nat), (dig B k c).length = k
  | 0, _ => rfl
  | k + 1, c => by
    show (dig B k (c / B)).length + 1 = k + 1
    rw [dig_len B k]
theorem dig_lt {B : Nat} (hB : 0 < B) : ∀ (k c : Nat), ∀ d ∈ dig B k c, d < B
  | 0, _, d, h => by cases h
  | k + 1, c, d, h => by
    rcases List.mem_cons.mp h with rfl | h
    · exact Nat.mod_lt _ hB
    · exact dig_lt hB k _ d h
theorem dval_dig {B : Nat} : ∀ (k c : Nat), c < B ^ k → dval B (dig B k c) = c
  | 0, c, h => by
    show 0 = c
    have : c < 1 := h
    omega
  | k + 1, c, h => by
    show c % B + B * dval B (dig B k (c / B)) = c
    have hB : 0 < B := Nat.pos_of_ne_zero fun z => by
      rw [z, Nat.pow_succ, Nat.mul_zero] at h
      exact absurd h (Nat.not_lt_zero _)
    rw [dval_dig k (c / B) (Nat.div_lt_of_lt_mul (by rwa [Nat.pow_succ, Nat.mul_comm] at h))]
    exact Nat.mod_add_div c B
theorem dval_inj {B : Nat} : ∀ {l m : List Nat}, l.length = m.length → (∀ d ∈ l, d < B) → (∀ d ∈ m, d < B) → dval B l = dval B m → l = m
  | [], [], _, _, _, _ => rfl
  | [], _ :: _, h, _, _, _ => by cases h
  | _ :: _, [], h, _, _, _ => by cases h
  | c :: l, d :: m, h, h1, h2, e => by
    have a := h1 c List.mem_cons_self
    have b := h2 d List.mem_cons_self
    have e' : c + B * dval B l = d + B * dval B m := e
    have m1 : (c + B * dval B l) % B = (d + B * dval B m) % B := congrArg (· % B) e'
    have d1 : (c + B * dval B l) / B = (d + B * dval B m) / B := congrArg (· / B) e'
    rw [Nat.add_mul_mod_self_left, Nat.add_mul_mod_self_left, Nat.mod_eq_of_lt a, Nat.mod_eq_of_lt b] at m1
    rw [Nat.add_mul_div_left _ _ (by omega), Nat.add_mul_div_left _ _ (by omega), Nat.div_eq_of_lt a, Nat.div_eq_of_lt b] at d1
    rw [m1, dval_inj (by simpa using h) (fun x hx => h1 x (List.mem_cons_of_mem _ hx)) (fun x hx => h2 x (List.mem_cons_of_mem _ hx)) (by omega)]
theorem dval_lt {B : Nat} : ∀ {l : List Nat}, (∀ d ∈ l, d < B) → dval B l < B ^ l.length
  | [], _ => Nat.one_pos
  | d :: l, h => by
    have a := h d List.mem_cons_self
    have b := dval_lt fun x hx => h x (List.mem_cons_of_mem _ hx)
    show d + B * dval B l < B ^ (l.length + 1)
    rw [show B ^ (l.length + 1) = B * B ^ l.length by rw [Nat.pow_succ, Nat.mul_comm]]
    have : B * (dval B l + 1) ≤ B * B ^ l.length := Nat.mul_le_mul_left _ b
    rw [Nat.mul_add, Nat.mul_one] at this
    omega
/-! equations -/
def dot : List Int → List Int → Int
  | a :: r, x :: l => a * x + dot r l
  | _, _ => 0
def lowest : List Int → Int → Int
  | [], _ => 0
  | a :: r, X => (if a < 0 then a * X else 0) + lowest r X
theorem dot_bounds {A X : Nat} : ∀ {r x : List Int}, r.length = x.length → (∀ a ∈ r, a.natAbs ≤ A) → (∀ a ∈ x, 0 ≤ a ∧ a ≤ (X : Int)) → 0 ≤ dot r x - lowest r X ∧ dot r x - lowest r X ≤ ((r.length * (A * X) : Nat) : Int)
  | [], [], _, _, _ => ⟨Int.le_refl 0, by show (0 : Int) - 0 ≤ ((0 * (A * X) : Nat) : Int); rw [Nat.zero_mul]; decide⟩
  | [], _ :: _, h, _, _ => by cases h
  | _ :: _, [], h, _, _ => by cases h
  | a :: r, x :: l, h, h1, h2 => by
    obtain ⟨i1, i2⟩ := dot_bounds (A := A) (X := X) (r := r) (x := l) (by simpa using h) (fun b hb => h1 b (List.mem_cons_of_mem _ hb)) (fun b hb => h2 b (List.mem_cons_of_mem _ hb))
    obtain ⟨x0, x1⟩ := h2 x List.mem_cons_self
    have ha := h1 a List.mem_cons_self
    show 0 ≤ (a * x + dot r l) - ((if a < 0 then a * (X : Int) else 0) + lowest r X) ∧ (a * x + dot r l) - ((if a < 0 then a * (X : Int) else 0) + lowest r X) ≤ (((r.length + 1) * (A * X) : Nat) : Int)
    have hm : ((((r.length + 1) * (A * X) : Nat)) : Int) = ((r.length * (A * X) : Nat) : Int) + ((A * X : Nat) : Int) := by
      rw [Nat.add_mul, Nat.one_mul]
      push_cast
      rfl
    rw [hm]
    have hAX : ((A * X : Nat) : Int) = (A : Int) * (X : Int) := by push_cast; rfl
    rw [hAX]
    have key : 0 ≤ a * x - (if a < 0 then a * (X : Int) else 0) ∧ a * x - (if a < 0 then a * (X : Int) else 0) ≤ (A : Int) * (X : Int) := by
      split
      · rename_i hneg
        have e : a * x - a * (X : Int) = (-a) * ((X : Int) - x) := by grind
        rw [e]
        refine ⟨Int.mul_nonneg (by omega) (by omega), ?_⟩
        calc (-a) * ((X : Int) - x) ≤ (A : Int) * ((X : Int) - x) := Int.mul_le_mul_of_nonneg_right (by omega) (by omega)
          _ ≤ (A : Int) * (X : Int) := Int.mul_le_mul_of_nonneg_left (by omega) (by omega)
      · rename_i hpos
        refine ⟨by have := Int.mul_nonneg (show 0 ≤ a by omega) x0; omega, ?_⟩
        have e : a * x - 0 = a * x := by omega
        rw [e]
        calc a * x ≤ (A : Int) * x := Int.mul_le_mul_of_nonneg_right (by omega) x0
          _ ≤ (A : Int) * (X : Int) := Int.mul_le_mul_of_nonneg_left x1 (by omega)
    obtain ⟨k1, k2⟩ := key
    omega
def isub (x y : List Int) : List Int := x.zipWith (fun a b => a - b) y
theorem dot_isub : ∀ {r x y : List Int}, r.length = x.length → x.length = y.length → dot r (isub x y) = dot r x - dot r y
  | [], [], [], _, _ => rfl
  | a :: r, x :: l, y :: m, h, k => by
    show a * (x - y) + dot r (isub l m) = (a * x + dot r l) - (a * y + dot r m)
    rw [dot_isub (by simpa using h) (by simpa using k)]
    grind
  | [], [], _ :: _, _, k => by cases k
  | [], _ :: _, _, h, _ => by cases h
  | _ :: _, [], _, h, _ => by cases h
  | _ :: _, _ :: _, [], _, k => by cases k
def nints (l : List Nat) : List Int := l.map fun (n : Nat) => (n : Int)
theorem small_root {rows : List (List Int)} {k A : Nat} (hk : rows.length + 1 = k) (hr : ∀ r ∈ rows, r.length = k) (hA : ∀ r ∈ rows, ∀ a ∈ r, a.natAbs ≤ A) (hA0 : 0 < A) :
    ∃ x : List Int, x.length = k ∧ (∃ a ∈ x, a ≠ 0) ∧ (∀ a ∈ x, a.natAbs ≤ (k * A) ^ rows.length) ∧ ∀ r ∈ rows, dot r x = 0 := by
  generalize hX : (k * A) ^ rows.length = X
  have hkA : 0 < k * A := Nat.mul_pos (by omega) hA0
  have hX0 : 0 < X := hX ▸ Nat.pow_pos hkA
  -- the place of a vector's answers
  let M := k * (A * X) + 1
  let g : Nat → List Int → Nat := fun c r => (dot r (nints (dig (X + 1) k c)) - lowest r X).toNat
  have hdl : ∀ c, (nints (dig (X + 1) k c)).length = k := fun c => by
    unfold nints
    rw [List.length_map, dig_len]
  have hdb : ∀ c, ∀ a ∈ nints (dig (X + 1) k c), 0 ≤ a ∧ a ≤ (X : Int) := fun c a ha => by
    obtain ⟨n, hn, rfl⟩ := List.mem_map.mp ha
    have := dig_lt (Nat.succ_pos X) k c n hn
    omega
  have hg : ∀ c, ∀ r ∈ rows, g c r < M ∧ ((g c r : Nat) : Int) = dot r (nints (dig (X + 1) k c)) - lowest r X := fun c r h => by
    obtain ⟨b1, b2⟩ := dot_bounds (A := A) (X := X) (r := r) (x := nints (dig (X + 1) k c)) (by rw [hr r h, hdl]) (hA r h) (hdb c)
    rw [hr r h] at b2
    show (dot r (nints (dig (X + 1) k c)) - lowest r X).toNat < k * (A * X) + 1 ∧ (((dot r (nints (dig (X + 1) k c)) - lowest r X).toNat : Nat) : Int) = _
    omega
  have hM : M ^ rows.length < (X + 1) ^ k := by
    have h1 : M ≤ (k * A) * (X + 1) := by
      show k * (A * X) + 1 ≤ _
      rw [Nat.mul_add, Nat.mul_one, Nat.mul_assoc]
      omega
    calc M ^ rows.length ≤ ((k * A) * (X + 1)) ^ rows.length := Nat.pow_le_pow_left h1 _
      _ = (k * A) ^ rows.length * (X + 1) ^ rows.length := Nat.mul_pow _ _ _
      _ = X * (X + 1) ^ rows.length := by rw [hX]
      _ < (X + 1) * (X + 1) ^ rows.length := Nat.mul_lt_mul_of_pos_right (Nat.lt_succ_self X) (Nat.pow_pos (Nat.succ_pos X))
      _ = (X + 1) ^ k := by rw [← hk, Nat.pow_succ, Nat.mul_comm]
  obtain ⟨i, j, hij, hj, e⟩ := pigeons (M ^ rows.length) (fun c => dval M (rows.map (g c))) fun c _ => by
    have := dval_lt (B := M) (l := rows.map (g c)) fun d hd => by
      obtain ⟨r, h, rfl⟩ := List.mem_map.mp hd
      exact (hg c r h).1
    rwa [List.length_map] at this
  have hij' : rows.map (g i) = rows.map (g j) := dval_inj (by rw [List.length_map, List.length_map]) (fun d hd => by
      obtain ⟨r, h, rfl⟩ := List.mem_map.mp hd
      exact (hg i r h).1) (fun d hd => by
      obtain ⟨r, h, rfl⟩ := List.mem_map.mp hd
      exact (hg j r h).1) e
  have heq : ∀ r ∈ rows, g i r = g j r := fun r h => List.map_inj_left.mp hij' r h
  refine ⟨isub (nints (dig (X + 1) k j)) (nints (dig (X + 1) k i)), ?_, ?_, ?_, fun r h => ?_⟩
  · unfold isub
    rw [List.length_zipWith, hdl, hdl, Nat.min_self]
  · refine Classical.byContradiction fun hz => ?_
    have all0 : ∀ a ∈ isub (nints (dig (X + 1) k j)) (nints (dig (X + 1) k i)), a = 0 := fun a ha => Classical.byContradiction fun z => hz ⟨a, ha, z⟩
    have key : ∀ (l m : List Nat), l.length = m.length → (∀ a ∈ isub (nints l) (nints m), a = 0) → l = m := by
      intro l
      induction l with
      | nil => intro m h _; exact (List.eq_nil_of_length_eq_zero h.symm).symm
      | cons c l ih =>
        intro m h h0
        cases m with
        | nil => cases h
        | cons d m =>
          have h1 : (c : Int) - (d : Int) = 0 := h0 _ List.mem_cons_self
          rw [ih m (by simpa using h) fun a ha => h0 a (List.mem_cons_of_mem _ ha), show c = d by omega]
    have := key _ _ (by rw [dig_len, dig_len]) all0
    have v := congrArg (dval (X + 1)) this
    rw [dval_dig _ _ (by omega), dval_dig _ _ (by omega)] at v
    omega
  · intro a ha
    unfold isub at ha
    obtain ⟨n, hn⟩ := List.mem_iff_getElem?.mp ha
    rw [List.getElem?_zipWith] at hn
    cases h1 : (nints (dig (X + 1) k j))[n]? with
    | none => rw [h1] at hn; cases hn
    | some p =>
      cases h2 : (nints (dig (X + 1) k i))[n]? with
      | none => rw [h1, h2] at hn; cases hn
      | some q =>
        rw [h1, h2] at hn
        have e3 : p - q = a := Option.some.inj hn
        have b1 := hdb j p (List.mem_of_getElem? h1)
        have b2 := hdb i q (List.mem_of_getElem? h2)
        omega
  · rw [dot_isub (by rw [hr r h, hdl]) (by rw [hdl, hdl])]
    have e1 := (hg i r h).2
    have e2 := (hg j r h).2
    have e3 := heq r h
    omega
end Vx
namespace Vx
theorem pmul_len_le : ∀ (a b : List Rat), (pmul a b).length ≤ a.length + b.length - 1
  | [], b => Nat.zero_le _
  | [x], b => by
    show (b.map (x * ·)).length ≤ 1 + b.length - 1
    rw [List.length_map]
    omega
  | x :: y :: a, b => by
    show (ladd (b.map (x * ·)) (0 :: pmul (y :: a) b)).length ≤ _
    have ih := pmul_len_le (y :: a) b
    rw [ladd_length, List.length_map, List.length_cons]
    have e1 : (x :: y :: a).length = a.length + 2 := rfl
    have e2 : (y :: a).length = a.length + 1 := rfl
    omega
theorem at0_ladd : ∀ (a b : List Rat) (i : Nat), at0 (ladd a b) i = at0 a i + at0 b i
  | [], b, i => by
    show at0 b i = at0 [] i + at0 b i
    rw [at0_out (l := []) (Nat.zero_le _)]
    grind
  | c :: a, [], i => by
    show at0 (c :: a) i = at0 (c :: a) i + at0 [] i
    rw [at0_out (l := []) (Nat.zero_le _)]
    grind
  | c :: a, d :: b, 0 => rfl
  | c :: a, d :: b, i + 1 => at0_ladd a b i
/-- x * s = y * s -/
theorem ev_cancel {x y s : List Rat} (ts : Tr s) (ns : s ≠ []) (h : ∀ z, ev x z * ev s z = ev y z * ev s z) : ∀ z, ev x z = ev y z := by
  obtain ⟨d, t1, _, t3⟩ := trim_ex (ladd x (y.map ((-1 : Rat) * ·)))
  have e : d = [] := no_small t1 ts ns tr_nil (List.length_pos_iff.mpr ns) fun z => by
    rw [t3, ev_ladd, ev_scale, ev_nil]
    have := h z
    grind
  intro z
  have := t3 z
  rw [e, ev_nil, ev_ladd, ev_scale] at this
  grind
structure Pr (a b f s u1 v1 u2 v2 : List Rat) (c : Rat) : Prop where
  ef : ∀ z, ev f z = ev u1 z * ev a z + ev v1 z * ev b z
  es : ∀ z, ev s z = ev u2 z * ev a z + ev v2 z * ev b z
  det : ∀ z, ev u1 z * ev v2 z - ev u2 z * ev v1 z = c
  c0 : c ≠ 0
  l1 : v1.length + f.length ≤ a.length + 1
  l2 : v2.length + f.length ≤ a.length + 1
theorem pr_unique {a b f s u1 v1 u2 v2 u v w : List Rat} {c : Rat} (P : Pr a b f s u1 v1 u2 v2 c) (ta : Tr a) (na : a ≠ []) (ts : Tr s) (ns : s ≠ []) (hfs : s.length < f.length) (tw : Tr w)
    (hw : ∀ z, ev w z = ev u z * ev a z + ev v z * ev b z) (lw : w.length ≤ s.length) (lv : v.length + s.length ≤ a.length) :
    ∃ t : Rat, (∀ z, ev w z = t * ev s z) ∧ (∀ z, ev u z = t * ev u2 z) ∧ ∀ z, ev v z = t * ev v2 z := by
  obtain ⟨D, d1, _, d3⟩ := trim_ex (ladd (pmul u v2) ((pmul v u2).map ((-1 : Rat) * ·)))
  obtain ⟨R, r1, r2, r3⟩ := trim_ex (ladd (pmul v2 w) ((pmul v s).map ((-1 : Rat) * ·)))
  have hD : ∀ z, ev D z = ev u z * ev v2 z - ev v z * ev u2 z := fun z => by
    rw [d3, ev_ladd, ev_scale, ev_pmul, ev_pmul]
    grind
  have hR : ∀ z, ev R z = ev v2 z * ev w z - ev v z * ev s z := fun z => by
    rw [r3, ev_ladd, ev_scale, ev_pmul, ev_pmul]
    grind
  have lR : R.length < a.length := by
    rw [ladd_length, List.length_map] at r2
    have p1 := pmul_len_le v2 w
    have p2 := pmul_len_le v s
    have p3 := P.l2
    have p4 := List.length_pos_iff.mpr na
    have p5 := List.length_pos_iff.mpr ns
    omega
  have e : D = [] := no_small d1 ta na r1 lR fun z => by
    rw [hD, hR, hw, P.es]
    grind
  have h1 : ∀ z, ev u z * ev v2 z = ev v z * ev u2 z := fun z => by
    have := hD z
    rw [e, ev_nil] at this
    grind
  have h2 : ∀ z, ev v2 z * ev w z = ev v z * ev s z := fun z => by
    have a1 := h1 z
    rw [hw, P.es]
    grind
  have h3 : ∀ z, ev u2 z * ev w z = ev u z * ev s z := fun z => by
    have a1 := h1 z
    rw [hw, P.es]
    grind
  obtain ⟨q, q1, _, q3⟩ := trim_ex ((ladd (pmul u1 v) ((pmul v1 u).map ((-1 : Rat) * ·))).map ((1 / c) * ·))
  have c0 := P.c0
  have hq : ∀ z, ev w z = ev q z * ev s z := fun z => by
    rw [q3, ev_scale, ev_ladd, ev_scale, ev_pmul, ev_pmul]
    have a1 := h2 z
    have a2 := h3 z
    have a3 := P.det z
    have a4 : c * ev w z = ev u1 z * (ev v z * ev s z) - ev v1 z * (ev u z * ev s z) := by
      rw [← a3, ← a1, ← a2]
      grind
    have a5 : ev w z = 1 / c * (c * ev w z) := by grind
    rw [a5, a4]
    grind
  have lq : q.length ≤ 1 := by
    by_cases hz : q = []
    · rw [hz]
      exact Nat.zero_le _
    · have hw' : w = pmul q s := prod_is q1 ts tw hq hz ns
      have := (pmul_shape q s hz ns).1
      rw [← hw'] at this
      have p5 := List.length_pos_iff.mpr ns
      omega
  obtain ⟨t, ht⟩ : ∃ t : Rat, ∀ z, ev q z = t := by
    match q, lq with
    | [], _ => exact ⟨0, fun z => rfl⟩
    | [t], _ => exact ⟨t, fun z => by show t + z * 0 = t; grind⟩
  have hwt : ∀ z, ev w z = t * ev s z := fun z => by rw [hq, ht]
  refine ⟨t, hwt, fun z => ?_, fun z => ?_⟩
  · have := ev_cancel (x := u) (y := smul t u2) ts ns (fun z => by
      have a1 := h3 z
      rw [hwt] at a1
      rw [show ev (smul t u2) z = t * ev u2 z from ev_scale _ _ _]
      grind) z
    rw [this]
    exact ev_scale _ _ _
  · have := ev_cancel (x := v) (y := smul t v2) ts ns (fun z => by
      have a1 := h2 z
      rw [hwt] at a1
      rw [show ev (smul t v2) z = t * ev v2 z from ev_scale _ _ _]
      grind) z
    rw [this]
    exact ev_scale _ _ _
theorem ev_at0 : ∀ {p q : List Rat}, (∀ i, at0 p i = at0 q i) → ∀ z, ev p z = ev q z
  | [], q, h, z => by
    have : ∀ c ∈ q, c = 0 := fun c hc => by
      obtain ⟨i, hi⟩ := List.mem_iff_getElem?.mp hc
      rw [← at0_some hi, ← h i, at0_out (l := []) (Nat.zero_le _)]
    rw [ev_zeros this]
    rfl
  | c :: p, [], h, z => by
    have : ∀ d ∈ c :: p, d = 0 := fun d hd => by
      obtain ⟨i, hi⟩ := List.mem_iff_getElem?.mp hd
      rw [← at0_some hi, h i, at0_out (l := []) (Nat.zero_le _)]
    rw [ev_zeros this]
    rfl
  | c :: p, d :: q, h, z => by
    show c + z * ev p z = d + z * ev q z
    have h0 : c = d := h 0
    rw [h0, ev_at0 (p := p) (q := q) (fun i => h (i + 1)) z]
/-! products of whole rows, number by number -/
def ga (ns : List Int) (d i : Nat) : Int := if i ≤ d then ns.getD (d - i) 0 else 0
theorem dot_map_congr {f g : Nat → Int} : ∀ (n : Nat) (l : List Int), (∀ i, i < n → f i = g i) → dot ((List.range n).map f) l = dot ((List.range n).map g) l := fun n l h => by
  rw [List.map_congr_left fun i hi => h i (List.mem_range.mp hi)]
theorem dot_zero : ∀ (r l : List Int), (∀ a ∈ r, a = 0) → dot r l = 0
  | [], _, _ => rfl
  | a :: r, [], _ => rfl
  | a :: r, x :: l, h => by
    show a * x + dot r l = 0
    rw [h a List.mem_cons_self, dot_zero r l fun b hb => h b (List.mem_cons_of_mem _ hb)]
    omega
theorem dot_append : ∀ {r l : List Int} (r' l' : List Int), r.length = l.length → dot (r ++ r') (l ++ l') = dot r l + dot r' l'
  | [], [], r', l', _ => by
    show dot r' l' = 0 + dot r' l'
    omega
  | [], _ :: _, _, _, h => by cases h
  | _ :: _, [], _, _, h => by cases h
  | a :: r, x :: l, r', l', h => by
    show a * x + dot (r ++ r') (l ++ l') = (a * x + dot r l) + dot r' l'
    rw [dot_append r' l' (by simpa using h)]
    omega
theorem at0_pmul : ∀ (u b : List Int) (d : Nat), at0 (pmul (toR u) (toR b)) d = ((dot ((List.range u.length).map (ga b d)) u : Int) : Rat)
  | [], b, d => by
    show at0 [] d = _
    rw [at0_out (Nat.zero_le _)]
    show (0 : Rat) = ((0 : Int) : Rat)
    push_cast
    rfl
  | [x], b, d => by
    show at0 (smul (x : Rat) (toR b)) d = ((ga b d 0 * x + 0 : Int) : Rat)
    rw [at0_smul, toR_at]
    have e : ga b d 0 = b.getD d 0 := by
      unfold ga
      rw [if_pos (Nat.zero_le _), Nat.sub_zero]
    rw [e]
    push_cast
    grind
  | x :: y :: u, b, d => by
    show at0 (ladd (smul (x : Rat) (toR b)) (0 :: pmul (toR (y :: u)) (toR b))) d = _
    rw [at0_ladd, at0_smul, toR_at]
    have e : ga b d 0 = b.getD d 0 := by
      unfold ga
      rw [if_pos (Nat.zero_le _), Nat.sub_zero]
    have hs : (List.range (x :: y :: u).length).map (ga b d) = ga b d 0 :: (List.range (y :: u).length).map fun i => ga b d (i + 1) := by
      rw [show (x :: y :: u).length = (y :: u).length + 1 from rfl, List.range_succ_eq_map, List.map_cons, List.map_map]
      rfl
    rw [hs]
    show _ = ((ga b d 0 * x + dot ((List.range (y :: u).length).map fun i => ga b d (i + 1)) (y :: u) : Int) : Rat)
    rw [e]
    cases d with
    | zero =>
      have h0 : dot ((List.range (y :: u).length).map fun i => ga b 0 (i + 1)) (y :: u) = 0 := dot_zero _ _ fun a ha => by
        obtain ⟨i, _, rfl⟩ := List.mem_map.mp ha
        unfold ga
        rw [if_neg (by omega)]
      rw [h0]
      show (x : Rat) * _ + 0 = _
      push_cast
      grind
    | succ d =>
      have h1 : dot ((List.range (y :: u).length).map fun i => ga b (d + 1) (i + 1)) (y :: u) = dot ((List.range (y :: u).length).map (ga b d)) (y :: u) := dot_map_congr _ _ fun i _ => by
        unfold ga
        by_cases h : i ≤ d
        · rw [if_pos h, if_pos (by omega), show d + 1 - (i + 1) = d - i by omega]
        · rw [if_neg h, if_neg (by omega)]
      rw [h1]
      show (x : Rat) * _ + at0 (pmul (toR (y :: u)) (toR b)) d = _
      rw [at0_pmul (y :: u) b d]
      push_cast
      grind
theorem ga_le {ns : List Int} {A : Nat} (h : ∀ n ∈ ns, n.natAbs ≤ A) (d i : Nat) : (ga ns d i).natAbs ≤ A := by
  unfold ga
  split
  · by_cases hi : d - i < ns.length
    · refine h _ (List.mem_of_getElem? (i := d - i) ?_)
      rw [List.getD_eq_getElem?_getD, List.getElem?_eq_getElem hi]
      rfl
    · rw [List.getD_eq_getElem?_getD, List.getElem?_eq_none (by omega)]
      exact Nat.zero_le _
  · exact Nat.zero_le _
theorem dot_le {A X : Nat} : ∀ {r l : List Int}, (∀ a ∈ r, a.natAbs ≤ A) → (∀ x ∈ l, x.natAbs ≤ X) → (dot r l).natAbs ≤ l.length * (A * X)
  | [], _, _, _ => Nat.zero_le _
  | _ :: _, [], _, _ => Nat.zero_le _
  | a :: r, x :: l, h, k => by
    have ih := dot_le (r := r) (l := l) (fun b hb => h b (List.mem_cons_of_mem _ hb)) fun b hb => k b (List.mem_cons_of_mem _ hb)
    have h1 : (a * x).natAbs ≤ A * X := by
      rw [Int.natAbs_mul]
      exact Nat.mul_le_mul (h a List.mem_cons_self) (k x List.mem_cons_self)
    show (a * x + dot r l).natAbs ≤ (l.length + 1) * (A * X)
    rw [Nat.add_mul, Nat.one_mul]
    omega
/-- small whole rows u, v with u * a + v * b of fewer numbers -/
theorem small_combo {an bn : List Int} {A ls : Nat} (ha : ∀ n ∈ an, n.natAbs ≤ A) (hb : ∀ n ∈ bn, n.natAbs ≤ A) (hA : 0 < A) (l1 : ls ≤ an.length) (l2 : ls ≤ bn.length) (l3 : 2 * ls < an.length + bn.length) :
    ∃ (u v w : List Int), u.length + ls = bn.length ∧ v.length + ls = an.length ∧ w.length = ls ∧ (∃ x ∈ u ++ v, x ≠ 0) ∧ (∀ x ∈ u ++ v, x.natAbs ≤ ((an.length + bn.length) * A) ^ (an.length + bn.length)) ∧
      (∀ x ∈ w, x.natAbs ≤ (an.length + bn.length) * (A * ((an.length + bn.length) * A) ^ (an.length + bn.length))) ∧ ∀ z, ev (toR w) z = ev (toR u) z * ev (toR an) z + ev (toR v) z * ev (toR bn) z := by
  obtain ⟨k, hk⟩ : ∃ k, k + 2 * ls = an.length + bn.length := ⟨an.length + bn.length - 2 * ls, by omega⟩
  let row : Nat → List Int := fun d => (List.range (bn.length - ls)).map (ga an d) ++ (List.range (an.length - ls)).map (ga bn d)
  have rlen : ∀ d, (row d).length = k := fun d => by
    show ((List.range (bn.length - ls)).map (ga an d) ++ (List.range (an.length - ls)).map (ga bn d)).length = k
    rw [List.length_append, List.length_map, List.length_map, List.length_range, List.length_range]
    omega
  have rA : ∀ d, ∀ a ∈ row d, a.natAbs ≤ A := fun d a h => by
    rcases List.mem_append.mp h with h | h
    · obtain ⟨i, _, rfl⟩ := List.mem_map.mp h
      exact ga_le ha d i
    · obtain ⟨i, _, rfl⟩ := List.mem_map.mp h
      exact ga_le hb d i
  obtain ⟨x, xl, xn, xb, x0⟩ := small_root (rows := (List.range (k - 1)).map fun j => row (ls + j)) (k := k) (A := A) (by rw [List.length_map, List.length_range]; omega) (fun r h => by
      obtain ⟨j, _, rfl⟩ := List.mem_map.mp h
      exact rlen _) (fun r h => by
      obtain ⟨j, _, rfl⟩ := List.mem_map.mp h
      exact rA _) hA
  rw [List.length_map, List.length_range] at xb
  have hbig : (k * A) ^ (k - 1) ≤ ((an.length + bn.length) * A) ^ (an.length + bn.length) := by
    have h1 : k * A ≤ (an.length + bn.length) * A := Nat.mul_le_mul_right _ (by omega)
    refine Nat.le_trans (Nat.pow_le_pow_left h1 _) (Nat.pow_le_pow_right (Nat.mul_pos (by omega) hA) (by omega))
  have xb' : ∀ a ∈ x, a.natAbs ≤ ((an.length + bn.length) * A) ^ (an.length + bn.length) := fun a h => Nat.le_trans (xb a h) hbig
  generalize ((an.length + bn.length) * A) ^ (an.length + bn.length) = X at xb' 
  have ex : x.take (bn.length - ls) ++ x.drop (bn.length - ls) = x := List.take_append_drop _ _
  have lu : (x.take (bn.length - ls)).length = bn.length - ls := by rw [List.length_take]; omega
  have lv : (x.drop (bn.length - ls)).length = an.length - ls := by rw [List.length_drop]; omega
  have hdot : ∀ d, dot (row d) x = dot ((List.range (bn.length - ls)).map (ga an d)) (x.take (bn.length - ls)) + dot ((List.range (an.length - ls)).map (ga bn d)) (x.drop (bn.length - ls)) := fun d => by
    conv => lhs; rw [← ex]
    exact dot_append _ _ (by rw [List.length_map, List.length_range, lu])
  have hat : ∀ d, at0 (ladd (pmul (toR (x.take (bn.length - ls))) (toR an)) (pmul (toR (x.drop (bn.length - ls))) (toR bn))) d = ((dot (row d) x : Int) : Rat) := fun d => by
    rw [at0_ladd, at0_pmul, at0_pmul, hdot, lu, lv]
    push_cast
    rfl
  refine ⟨x.take (bn.length - ls), x.drop (bn.length - ls), (List.range ls).map fun d => dot (row d) x, by omega, by omega, by rw [List.length_map, List.length_range], by rw [ex]; exact xn, by rw [ex]; exact xb', fun y hy => ?_, fun z => ?_⟩
  · obtain ⟨d, _, rfl⟩ := List.mem_map.mp hy
    refine Nat.le_trans (dot_le (rA d) xb') (Nat.mul_le_mul_right _ ?_)
    omega
  · rw [← ev_pmul, ← ev_pmul, ← ev_ladd]
    generalize hW : ladd (pmul (toR (x.take (bn.length - ls))) (toR an)) (pmul (toR (x.drop (bn.length - ls))) (toR bn)) = W at hat
    have lW : W.length ≤ ls + (k - 1) := by
      rw [← hW, ladd_length]
      have p1 := pmul_len_le (toR (x.take (bn.length - ls))) (toR an)
      have p2 := pmul_len_le (toR (x.drop (bn.length - ls))) (toR bn)
      rw [toR_len, toR_len, lu] at p1
      rw [toR_len, toR_len, lv] at p2
      omega
    have hz : ∀ c ∈ W.drop ls, c = 0 := fun c hc => by
      obtain ⟨j, hj⟩ := List.mem_iff_getElem?.mp hc
      rw [List.getElem?_drop] at hj
      have hlt := (List.getElem?_eq_some_iff.mp hj).1
      have e1 := at0_some hj
      rw [hat, x0 (row (ls + j)) (List.mem_map.mpr ⟨j, List.mem_range.mpr (by omega), rfl⟩)] at e1
      rw [← e1]
      push_cast
      rfl
    rw [← ev_take_drop W ls hz]
    refine ev_at0 (fun i => ?_) z
    rw [toR_at]
    by_cases hi : i < ls
    · have e3 : ((List.range ls).map fun d => dot (row d) x).getD i 0 = dot (row i) x := by
        rw [List.getD_eq_getElem?_getD, List.getElem?_map, List.getElem?_range hi]
        rfl
      rw [e3, ← hat]
      unfold at0
      rw [List.getD_eq_getElem?_getD, List.getD_eq_getElem?_getD, List.getElem?_take_of_lt hi]
    · have e3 : ((List.range ls).map fun d => dot (row d) x).getD i 0 = 0 := by
        rw [List.getD_eq_getElem?_getD, List.getElem?_eq_none (by rw [List.length_map, List.length_range]; omega)]
        rfl
      rw [e3, at0_out (by rw [List.length_take]; omega)]
      push_cast
      rfl
end Vx
namespace Vx
theorem ev_same_len {p q : List Rat} (hl : p.length = q.length) (h : ∀ z, ev p z = ev q z) : p = q := by
  have h0 := ev_nought (l := ladd p (q.map ((-1 : Rat) * ·))) fun z => by
    rw [ev_ladd, ev_scale, h]
    grind
  refine ext0 hl fun i hi => ?_
  have e : at0 (ladd p (q.map ((-1 : Rat) * ·))) i = 0 := h0 _ (at0_mem (by rw [ladd_length, List.length_map]; omega))
  rw [at0_ladd] at e
  have e2 : at0 (q.map ((-1 : Rat) * ·)) i = -1 * at0 q i := at0_smul _ _ _
  rw [e2] at e
  grind
theorem pr_step {a b f s s' q u1 v1 u2 v2 : List Rat} {c S r : Rat} (P : Pr a b f s u1 v1 u2 v2 c) (hS : S ≠ 0) (hr : r ≠ 0) (hsf : s.length ≤ f.length) (hq : q.length + s.length ≤ f.length + 1)
    (h : ∀ z, ev s' z = r * (S * ev f z - ev q z * ev s z)) : ∃ u' v' c', Pr a b s s' u2 v2 u' v' c' := by
  refine ⟨ladd (u1.map ((r * S) * ·)) ((pmul q u2).map ((-r) * ·)), ladd (v1.map ((r * S) * ·)) ((pmul q v2).map ((-r) * ·)), -(r * S * c), P.es, fun z => ?_, fun z => ?_, ?_, ?_, ?_⟩
  · rw [h, P.ef, P.es, ev_ladd, ev_ladd, ev_scale, ev_scale, ev_scale, ev_scale, ev_pmul, ev_pmul]
    grind
  · have := P.det z
    rw [ev_ladd, ev_ladd, ev_scale, ev_scale, ev_scale, ev_scale, ev_pmul, ev_pmul, ← this]
    grind
  · have := P.c0
    have h1 : r * S ≠ 0 := by grind
    have h2 : r * S * c ≠ 0 := by grind
    grind
  · have := P.l2
    omega
  · rw [ladd_length, List.length_map, List.length_map]
    have p1 := pmul_len_le q v2
    have p2 := P.l1
    have p3 := P.l2
    omega
theorem pr_start (a b : List Rat) : Pr a b a b [1] [] [] [1] 1 := by
  have e1 : ∀ z : Rat, ev [1] z = 1 := ev_one
  refine ⟨fun z => ?_, fun z => ?_, fun z => ?_, by decide, ?_, ?_⟩
  · rw [e1, ev_nil]
    grind
  · rw [e1, ev_nil]
    grind
  · rw [e1, ev_nil]
    grind
  · show 0 + a.length ≤ _
    omega
  · show 1 + a.length ≤ _
    omega
/-- a whole row without a common divisor is no longer, number by number, than any whole row that is a multiple of it -/
theorem prim_le {p w : List Int} {c : Rat} {B : Nat} (hp : ∀ g : Nat, (∀ n ∈ p, (g : Int) ∣ n) → g = 1) (hc : c ≠ 0) (h : toR w = smul c (toR p)) (hw : ∀ n ∈ w, n.natAbs ≤ B) : ∀ n ∈ p, n.natAbs ≤ B := by
  have hlen : w.length = p.length := by
    have := congrArg List.length h
    rwa [toR_len, smul_len, toR_len] at this
  have hd : (c.den : Int) ≠ 0 := by have := c.den_nz; omega
  have hdr : ((c.den : Int) : Rat) ≠ 0 := by exact_mod_cast hd
  have hcn : c = (c.num : Rat) / ((c.den : Int) : Rat) := by
    rw [← Rat.divInt_eq_div]
    exact (fr_self c).symm
  have key : ∀ i, w.getD i 0 * (c.den : Int) = c.num * p.getD i 0 := fun i => by
    have e : at0 (toR w) i = at0 (smul c (toR p)) i := by rw [h]
    rw [toR_at, at0_smul, toR_at] at e
    have k2 : ∀ x y n d c : Rat, d ≠ 0 → c = n / d → x = c * y → x * d = n * y := by
      intro x y n d c h1 h2 h3
      grind
    have := k2 _ _ _ _ _ hdr hcn e
    exact_mod_cast this
  have hdiv : ∀ i, (c.den : Int) ∣ p.getD i 0 := fun i => by
    have h1 : (c.den : Int) ∣ c.num * p.getD i 0 := ⟨w.getD i 0, by rw [← key, Int.mul_comm]⟩
    have h2 : c.den ∣ c.num.natAbs * (p.getD i 0).natAbs := by
      have := Int.ofNat_dvd_left.mp h1
      rwa [Int.natAbs_mul] at this
    exact Int.ofNat_dvd_left.mpr (Nat.Coprime.dvd_of_dvd_mul_left (Nat.Coprime.symm c.reduced) h2)
  have hden : c.den = 1 := hp c.den fun n hn => by
    obtain ⟨i, hi⟩ := List.mem_iff_getElem?.mp hn
    have := hdiv i
    rwa [List.getD_eq_getElem?_getD, hi] at this
  have hnum : c.num ≠ 0 := fun z => hc (Rat.num_eq_zero.mp z)
  intro n hn
  obtain ⟨i, hi⟩ := List.mem_iff_getElem?.mp hn
  have k := key i
  rw [hden, List.getD_eq_getElem?_getD (l := p), hi] at k
  have hiw : i < w.length := by
    rw [hlen]
    exact (List.getElem?_eq_some_iff.mp hi).1
  have hwi : w.getD i 0 ∈ w := List.mem_of_getElem? (i := i) (by rw [List.getD_eq_getElem?_getD, List.getElem?_eq_getElem hiw]; rfl)
  have b := hw _ hwi
  have k' : w.getD i 0 = c.num * n := by
    have : w.getD i 0 * ((1 : Nat) : Int) = c.num * n := k
    push_cast at this
    omega
  rw [k', Int.natAbs_mul] at b
  exact Nat.le_trans (Nat.le_mul_of_pos_left _ (by omega)) b
theorem pow_bits {L A α l : Nat} (hL : L ≤ 2 ^ l) (hA : A ≤ 2 ^ α) : L * (A * (L * A) ^ L) ≤ 2 ^ (l + α + (l + α) * L) := by
  have h1 : L * A ≤ 2 ^ (l + α) := by
    rw [Nat.pow_add]
    exact Nat.mul_le_mul hL hA
  have h2 : (L * A) ^ L ≤ 2 ^ ((l + α) * L) := by
    rw [Nat.pow_mul]
    exact Nat.pow_le_pow_left h1 _
  rw [← Nat.mul_assoc, Nat.pow_add]
  exact Nat.mul_le_mul h1 h2
/-- what stands in a chain has few bits: the rows, and what they are made with -/
theorem pr_small {an bn : List Int} {f s u1 v1 u2 v2 : List Rat} {c : Rat} {α l : Nat} (P : Pr (toR an) (toR bn) f s u1 v1 u2 v2 c) (ta : Tr (toR an)) (na : an ≠ []) (ts : Tr s) (ns : s ≠ []) (hfs : s.length < f.length)
    (la : s.length ≤ an.length) (lb : s.length ≤ bn.length) (l3 : 2 * s.length < an.length + bn.length) (za : ∀ n ∈ an, Bz α n) (zb : ∀ n ∈ bn, Bz α n) (hl : an.length + bn.length ≤ 2 ^ l) :
    ∃ (w u v : List Int) (t : Rat), t ≠ 0 ∧ toR w = smul t s ∧ (∀ z, ev (toR u) z = t * ev u2 z) ∧ (∀ z, ev (toR v) z = t * ev v2 z) ∧ u.length + s.length = bn.length ∧ v.length + s.length = an.length ∧
      (∀ n ∈ w, n.natAbs ≤ 2 ^ (l + α + (l + α) * (an.length + bn.length))) ∧ (∀ n ∈ u, n.natAbs ≤ 2 ^ (l + α + (l + α) * (an.length + bn.length))) ∧ ∀ n ∈ v, n.natAbs ≤ 2 ^ (l + α + (l + α) * (an.length + bn.length)) := by
  have nn : toR an ≠ [] := fun z => na (by
    have := congrArg List.length z
    rw [toR_len] at this
    exact List.eq_nil_of_length_eq_zero this)
  obtain ⟨u, v, w, lu, lv, lw, hn, huv, hw, he⟩ := small_combo (an := an) (bn := bn) (A := 2 ^ α) (ls := s.length) (fun n h => Nat.le_of_lt (za n h)) (fun n h => Nat.le_of_lt (zb n h)) (Nat.two_pow_pos α) la lb l3
  obtain ⟨tw, t1, t2, t3⟩ := trim_ex (toR w)
  obtain ⟨t, h1, h2, h3⟩ := pr_unique P ta nn ts ns hfs (u := toR u) (v := toR v) (w := tw) t1 (fun z => by rw [t3, he]) (by rw [toR_len] at t2; omega) (by rw [toR_len, toR_len]; omega)
  have hpb := pow_bits (A := 2 ^ α) hl (Nat.le_refl _)
  have hX : ((an.length + bn.length) * 2 ^ α) ^ (an.length + bn.length) ≤ 2 ^ (l + α + (l + α) * (an.length + bn.length)) := by
    have g1 : (an.length + bn.length) * 2 ^ α ≤ 2 ^ (l + α) := by
      rw [Nat.pow_add]
      exact Nat.mul_le_mul_right _ hl
    refine Nat.le_trans (Nat.pow_le_pow_left g1 _) ?_
    rw [← Nat.pow_mul]
    exact Nat.pow_le_pow_right (by decide) (by omega)
  have ht0 : t ≠ 0 := fun z => by
    obtain ⟨x, hx, hx0⟩ := hn
    have zu : ∀ z', ev (toR u) z' = 0 := fun z' => by rw [h2, z]; grind
    have zv : ∀ z', ev (toR v) z' = 0 := fun z' => by rw [h3, z]; grind
    have all : ∀ (l : List Int), (∀ z', ev (toR l) z' = 0) → ∀ n ∈ l, n = 0 := fun l hl0 n hn' => by
      have := ev_nought hl0 (n : Rat) (List.mem_map.mpr ⟨n, hn', rfl⟩)
      exact_mod_cast this
    rcases List.mem_append.mp hx with hx | hx
    · exact hx0 (all u zu x hx)
    · exact hx0 (all v zv x hx)
  refine ⟨w, u, v, t, ht0, ?_, h2, h3, lu, lv, fun n h => Nat.le_trans (hw n h) hpb, fun n h => Nat.le_trans (huv n (List.mem_append_left _ h)) hX, fun n h => Nat.le_trans (huv n (List.mem_append_right _ h)) hX⟩
  refine ev_same_len (by rw [toR_len, smul_len, lw]) fun z => ?_
  rw [← t3, h1]
  exact (ev_scale _ _ _).symm
/-- the bits of a row of the chain without a common divisor -/
theorem chain_bits {an bn p : List Int} {f s u1 v1 u2 v2 : List Rat} {c r : Rat} {α l : Nat} (P : Pr (toR an) (toR bn) f s u1 v1 u2 v2 c) (ta : Tr (toR an)) (na : an ≠ []) (ts : Tr s) (ns : s ≠ []) (hfs : s.length < f.length)
    (la : s.length ≤ an.length) (lb : s.length ≤ bn.length) (l3 : 2 * s.length < an.length + bn.length) (za : ∀ n ∈ an, Bz α n) (zb : ∀ n ∈ bn, Bz α n) (hl : an.length + bn.length ≤ 2 ^ l)
    (hp : ∀ g : Nat, (∀ n ∈ p, (g : Int) ∣ n) → g = 1) (hr : r ≠ 0) (h : s = smul r (toR p)) : ∀ n ∈ p, Bz (l + α + (l + α) * (an.length + bn.length) + 1) n := by
  obtain ⟨w, _, _, t, ht0, hw, _, _, _, _, hb, _, _⟩ := pr_small P ta na ts ns hfs la lb l3 za zb hl
  have e : toR w = smul (t * r) (toR p) := by rw [hw, h, smul_smul]
  intro n hn
  have := prim_le hp (by grind) e hb n hn
  unfold Bz
  rw [Nat.pow_succ]
  have := Nat.two_pow_pos (l + α + (l + α) * (an.length + bn.length))
  omega
end Vx
namespace Vx
theorem cd_mono {a b c d : Nat} {l : List Rat} (h : Cd a b l) (h1 : a ≤ c) (h2 : b ≤ d) : Cd c d l := by
  obtain ⟨D, d0, d1, d2⟩ := h
  exact ⟨D, d0, Nat.le_trans d1 (Nat.pow_le_pow_right (by decide) h1), fun x hx => let ⟨n, e, g⟩ := d2 x hx; ⟨n, e, Nat.le_trans g (Nat.pow_le_pow_right (by decide) h2)⟩⟩
theorem den_dvd {c : Rat} {D : Nat} {n : Int} (h : c * (D : Rat) = (n : Rat)) : c.den ∣ D := by
  have hd : (c.den : Int) ≠ 0 := by have := c.den_nz; omega
  have hdr : ((c.den : Int) : Rat) ≠ 0 := by exact_mod_cast hd
  have hcn : c = (c.num : Rat) / ((c.den : Int) : Rat) := by
    rw [← Rat.divInt_eq_div]
    exact (fr_self c).symm
  have key : ∀ c n d D m : Rat, d ≠ 0 → c = n / d → c * D = m → n * D = m * d := by
    intro c n d D m h1 h2 h3
    grind
  have e := key _ _ _ _ _ hdr hcn h
  have e2 : c.num * (D : Int) = n * (c.den : Int) := by exact_mod_cast e
  have h1 : c.den ∣ c.num.natAbs * D := by
    have h3 : (c.den : Int) ∣ c.num * (D : Int) := ⟨n, by rw [e2, Int.mul_comm]⟩
    have := Int.ofNat_dvd_left.mp h3
    rwa [Int.natAbs_mul, Int.natAbs_natCast] at this
  exact Nat.Coprime.dvd_of_dvd_mul_left (Nat.Coprime.symm c.reduced) h1
theorem mul_den {c : Rat} {D : Nat} (h : c.den ∣ D) : c * (D : Rat) = ((c.num * ((D / c.den : Nat) : Int) : Int) : Rat) := by
  obtain ⟨k, rfl⟩ := h
  have hdr : ((c.den : Int) : Rat) ≠ 0 := by have := c.den_nz; exact_mod_cast this
  have hcn : c = (c.num : Rat) / ((c.den : Int) : Rat) := by
    rw [← Rat.divInt_eq_div]
    exact (fr_self c).symm
  rw [Nat.mul_div_cancel_left _ c.den_pos]
  have key : ∀ c n d k : Rat, d ≠ 0 → c = n / d → c * (d * k) = n * k := by
    intro c n d k h1 h2
    grind
  have := key _ _ _ (k : Rat) hdr hcn
  push_cast at this ⊢
  exact this
theorem cd_of_qs4 {l : List Rat} (h : Qs 4 l) : Cd 19 23 l := by
  refine ⟨360360, by decide, by decide, fun c hc => ?_⟩
  obtain ⟨h1, h2⟩ := h c hc
  have hdv : c.den ∣ 360360 := by
    have : ∀ d, d < 16 → d ≠ 0 → d ∣ 360360 := by decide
    exact this _ h2 c.den_nz
  refine ⟨_, mul_den hdv, ?_⟩
  rw [Int.natAbs_mul, Int.natAbs_natCast]
  have h3 : 360360 / c.den ≤ 360360 := Nat.div_le_self _ _
  have h4 : c.num.natAbs ≤ 15 := by
    have : c.num.natAbs < 16 := h1
    omega
  exact Nat.le_trans (Nat.mul_le_mul h4 h3) (by decide)
theorem cd_cons {a b : Nat} {c : Rat} {l : List Rat} (h : Cd a b (c :: l)) : Cd a b l := by
  obtain ⟨D, d0, d1, d2⟩ := h
  exact ⟨D, d0, d1, fun x hx => d2 x (List.mem_cons_of_mem _ hx)⟩
theorem pmul_ints {D E : Nat} {b d : Nat} : ∀ {p q : List Rat}, (∀ c ∈ p, ∃ n : Int, c * (D : Rat) = (n : Rat) ∧ n.natAbs ≤ 2 ^ b) → (∀ c ∈ q, ∃ n : Int, c * (E : Rat) = (n : Rat) ∧ n.natAbs ≤ 2 ^ d) →
    ∀ c ∈ pmul p q, ∃ n : Int, c * ((D * E : Nat) : Rat) = (n : Rat) ∧ n.natAbs ≤ p.length * 2 ^ (b + d)
  | [], q, _, _, c, hc => by cases hc
  | [x], q, hp, hq, c, hc => by
    obtain ⟨y, hy, rfl⟩ := List.mem_map.mp (show c ∈ q.map (x * ·) from hc)
    obtain ⟨n, e1, g1⟩ := hp x List.mem_cons_self
    obtain ⟨m, e2, g2⟩ := hq y hy
    refine ⟨n * m, by push_cast; grind, ?_⟩
    rw [Int.natAbs_mul, Nat.pow_add, show [x].length = 1 from rfl, Nat.one_mul]
    exact Nat.mul_le_mul g1 g2
  | x :: y :: p, q, hp, hq, c, hc => by
    obtain ⟨n, e1, g1⟩ := hp x List.mem_cons_self
    have ih := pmul_ints (p := y :: p) (fun c h => hp c (List.mem_cons_of_mem _ h)) hq
    have hc' : c ∈ ladd (q.map (x * ·)) (0 :: pmul (y :: p) q) := hc
    obtain ⟨i, hi⟩ := List.mem_iff_getElem?.mp hc'
    have e := at0_some hi
    rw [at0_ladd] at e
    have f1 : ∃ n : Int, at0 (q.map (x * ·)) i * ((D * E : Nat) : Rat) = (n : Rat) ∧ n.natAbs ≤ 2 ^ (b + d) := by
      have e0 : at0 (q.map (x * ·)) i = x * at0 q i := at0_smul _ _ _
      obtain ⟨m, e2, g2⟩ : ∃ n : Int, at0 q i * (E : Rat) = (n : Rat) ∧ n.natAbs ≤ 2 ^ d := by
        by_cases h : i < q.length
        · exact hq _ (at0_mem h)
        · rw [at0_out (by omega)]
          exact ⟨0, by push_cast; grind, Nat.zero_le _⟩
      refine ⟨n * m, by rw [e0]; push_cast; grind, ?_⟩
      rw [Int.natAbs_mul, Nat.pow_add]
      exact Nat.mul_le_mul g1 g2
    have f2 : ∃ n : Int, at0 (0 :: pmul (y :: p) q) i * ((D * E : Nat) : Rat) = (n : Rat) ∧ n.natAbs ≤ (y :: p).length * 2 ^ (b + d) := by
      cases i with
      | zero => exact ⟨0, by show (0 : Rat) * _ = _; push_cast; grind, Nat.zero_le _⟩
      | succ i =>
        show ∃ n : Int, at0 (pmul (y :: p) q) i * _ = _ ∧ _
        by_cases h : i < (pmul (y :: p) q).length
        · exact ih _ (at0_mem h)
        · rw [at0_out (by omega)]
          exact ⟨0, by push_cast; grind, Nat.zero_le _⟩
    obtain ⟨n1, a1, b1⟩ := f1
    obtain ⟨n2, a2, b2⟩ := f2
    refine ⟨n1 + n2, by rw [← e]; push_cast; push_cast at a1 a2; grind, ?_⟩
    have e5 : (x :: y :: p).length * 2 ^ (b + d) = 2 ^ (b + d) + (y :: p).length * 2 ^ (b + d) := by
      rw [List.length_cons, Nat.add_mul, Nat.one_mul]
      omega
    omega
theorem cd_pmul {a b c d k : Nat} {p q : List Rat} (hp : Cd a b p) (hq : Cd c d q) (hl : p.length ≤ 2 ^ k) : Cd (a + c) (b + d + k) (pmul p q) := by
  obtain ⟨D, d0, d1, d2⟩ := hp
  obtain ⟨E, e0, e1, e2⟩ := hq
  refine ⟨D * E, Nat.mul_pos d0 e0, by rw [Nat.pow_add]; exact Nat.mul_le_mul d1 e1, fun x hx => ?_⟩
  obtain ⟨n, h1, h2⟩ := pmul_ints d2 e2 x hx
  refine ⟨n, h1, Nat.le_trans h2 ?_⟩
  rw [Nat.pow_add 2 (b + d) k, Nat.mul_comm]
  exact Nat.mul_le_mul_left _ hl
theorem cd_nil {a b : Nat} : Cd a b [] := ⟨1, by decide, Nat.one_le_two_pow, fun c h => by cases h⟩
theorem cd_prod {a b c d k : Nat} {p q r : List Rat} (hp : Cd a b p) (hq : Cd c d q) (hl : p.length ≤ 2 ^ k) (tp : Tr p) (tq : Tr q) (tr : Tr r) (h : ∀ z, ev r z = ev p z * ev q z) : Cd (a + c) (b + d + k) r := by
  by_cases e : p = [] ∨ q = []
  · rw [ev_nil_of tr h e]
    exact cd_nil
  · rw [prod_is tp tq tr h (fun z => e (.inl z)) fun z => e (.inr z)]
    exact cd_pmul hp hq hl
/-! common divisors -/
def Lead1 (g : List Rat) : Prop := ∃ i, at0 g i = 1 ∧ ∀ j, j < i → at0 g j = 0
structure Gcd (p q g : List Rat) : Prop where
  tr : Tr g
  ld : Lead1 g
  l : ∃ x : List Rat, ∀ z, ev p z = ev x z * ev g z
  r : ∃ y : List Rat, ∀ z, ev q z = ev y z * ev g z
  b : ∃ e f : List Rat, ∀ z, ev g z = ev e z * ev p z + ev f z * ev q z
theorem Lead1.ne {g : List Rat} (h : Lead1 g) : g ≠ [] := fun z => by
  obtain ⟨i, h1, _⟩ := h
  rw [z, at0_out (l := []) (Nat.zero_le _)] at h1
  exact absurd h1 (by decide)
theorem lead1_uniq {g h : List Rat} {k : Rat} (a : Lead1 g) (b : Lead1 h) (e : h = smul k g) : h = g := by
  obtain ⟨i, a1, a2⟩ := a
  obtain ⟨j, b1, b2⟩ := b
  have key : ∀ n, at0 h n = k * at0 g n := fun n => by rw [e, at0_smul]
  have hk : k = 1 := by
    rcases Nat.lt_trichotomy i j with hij | hij | hij
    · have h1 := b2 i hij
      rw [key, a1] at h1
      have h2 := key j
      rw [b1] at h2
      grind
    · subst hij
      have h2 := key i
      rw [b1, a1] at h2
      grind
    · have h1 := a2 j hij
      have h2 := key j
      rw [b1, h1] at h2
      grind
  rw [e, hk, smul_one]
theorem mult_len {a g r : List Rat} (tg : Tr g) (ng : g ≠ []) (tr : Tr r) (nr : r ≠ []) (h : ∀ z, ev r z = ev a z * ev g z) : ∃ t : List Rat, Tr t ∧ t ≠ [] ∧ (∀ z, ev t z = ev a z) ∧ r.length + 1 = t.length + g.length ∧ r = pmul t g := by
  obtain ⟨t, h1, _, h3⟩ := trim_ex a
  have e : ∀ z, ev r z = ev t z * ev g z := fun z => by rw [h, h3]
  have nt : t ≠ [] := fun z => nr (ev_nil_of tr e (.inl z))
  have hr := prod_is h1 tg tr e nt ng
  exact ⟨t, h1, nt, h3, by rw [hr]; exact (pmul_shape t g nt ng).1, hr⟩
theorem Gcd.uniq {p q g h : List Rat} (a : Gcd p q g) (b : Gcd p q h) : h = g := by
  have na := a.ld.ne
  have nb := b.ld.ne
  -- each is a multiple of the other
  have mul : ∀ {g h : List Rat}, Gcd p q g → Gcd p q h → ∃ x : List Rat, ∀ z, ev h z = ev x z * ev g z := fun {g h} a b => by
    obtain ⟨x, hx⟩ := a.l
    obtain ⟨y, hy⟩ := a.r
    obtain ⟨e, f, hb⟩ := b.b
    refine ⟨ladd (pmul e x) (pmul f y), fun z => ?_⟩
    rw [hb, ev_ladd, ev_pmul, ev_pmul, hx, hy]
    grind
  obtain ⟨x, hx⟩ := mul a b
  obtain ⟨y, hy⟩ := mul b a
  obtain ⟨t, t1, t2, t3, t4, t5⟩ := mult_len a.tr na b.tr nb hx
  obtain ⟨s, _, s2, _, s4, _⟩ := mult_len b.tr nb a.tr na hy
  have l1 := List.length_pos_iff.mpr t2
  have l2 := List.length_pos_iff.mpr s2
  obtain ⟨k, rfl⟩ : ∃ k, t = [k] := List.length_eq_one_iff.mp (by omega)
  exact lead1_uniq a.ld b.ld t5
theorem ev_smul (c : Rat) (l : List Rat) (z : Rat) : ev (smul c l) z = c * ev l z := ev_scale _ _ _
/-- an end of a chain, led -/
theorem gcd_of {p q g f : List Rat} {c : Rat} (tf : Tr f) (hc : c ≠ 0) (hg : g = smul c f) (ld : Lead1 g) (l : ∃ x : List Rat, ∀ z, ev p z = ev x z * ev f z) (r : ∃ y : List Rat, ∀ z, ev q z = ev y z * ev f z)
    (b : ∃ e h : List Rat, ∀ z, ev f z = ev e z * ev p z + ev h z * ev q z) : Gcd p q g := by
  subst hg
  have tg : Tr (smul c f) := fun hn => by
    have hl : f ≠ [] := fun z => hn (by rw [z]; rfl)
    rw [List.getLast_eq_getElem]
    have e := at0_get (l := smul c f) (i := (smul c f).length - 1) (by have := List.length_pos_iff.mpr hn; omega)
    rw [List.getElem?_eq_getElem (by have := List.length_pos_iff.mpr hn; omega)] at e
    rw [Option.some.inj e, at0_smul, smul_len]
    have h2 := tf hl
    rw [List.getLast_eq_getElem] at h2
    have e2 := at0_get (l := f) (i := f.length - 1) (by have := List.length_pos_iff.mpr hl; omega)
    rw [List.getElem?_eq_getElem (by have := List.length_pos_iff.mpr hl; omega)] at e2
    rw [Option.some.inj e2] at h2
    grind
  refine ⟨tg, ld, ?_, ?_, ?_⟩
  · obtain ⟨x, hx⟩ := l
    refine ⟨smul (1 / c) x, fun z => ?_⟩
    rw [hx, ev_smul, ev_smul]
    grind
  · obtain ⟨x, hx⟩ := r
    refine ⟨smul (1 / c) x, fun z => ?_⟩
    rw [hx, ev_smul, ev_smul]
    grind
  · obtain ⟨e, h, hb⟩ := b
    refine ⟨smul c e, smul c h, fun z => ?_⟩
    rw [ev_smul, ev_smul, ev_smul, hb]
    grind
end Vx
namespace Vx
/-- without noughts at the end and without a common divisor -/
structure PrimOf (ns ms : List Int) : Prop where
  tr : Tr (toR ms)
  c : ∃ c : Rat, c ≠ 0 ∧ ∀ z, ev (toR ms) z = c * ev (toR ns) z
  g : ms ≠ [] → ∀ g : Nat, (∀ n ∈ ms, (g : Int) ∣ n) → g = 1
theorem toR_nil_iff {l : List Int} : toR l = [] ↔ l = [] := by
  constructor
  · intro h
    have := congrArg List.length h
    rw [toR_len] at this
    exact List.eq_nil_of_length_eq_zero this
  · intro h
    rw [h]
    rfl
def ChI (an bn fs ss : List Int) : Prop := (fs = an ∧ ss = bn) ∨ ∃ (a b : List Int) (u1 v1 u2 v2 : List Rat) (c : Rat), ((a = an ∧ b = bn) ∨ (a = bn ∧ b = an)) ∧ Pr (toR a) (toR b) (toR fs) (toR ss) u1 v1 u2 v2 c ∧ ss.length < fs.length ∧ ss.length ≤ a.length ∧ ss.length ≤ b.length
/-- the bits of what stands in the chain -/
def bChain (l α N : Nat) : Nat := l + α + (l + α) * N + 1
theorem quo_len {f s q r : List Rat} {S : Rat} (tf : Tr f) (ts : Tr s) (ns : s ≠ []) (hS : S ≠ 0) (lr : r.length < s.length) (hsf : s.length ≤ f.length) (h : ∀ z, S * ev f z = ev q z * ev s z + ev r z) :
    ∃ q' : List Rat, (∀ z, ev q' z = ev q z) ∧ q'.length + s.length ≤ f.length + 1 := by
  obtain ⟨q', q1, _, q3⟩ := trim_ex q
  refine ⟨q', q3, ?_⟩
  by_cases hz : q' = []
  · rw [hz]
    show 0 + s.length ≤ _
    omega
  · obtain ⟨w, w1, w2, w3⟩ := trim_ex (ladd (f.map (S * ·)) (r.map ((-1 : Rat) * ·)))
    have e : w = pmul q' s := prod_is q1 ts w1 (fun z => by rw [w3, ev_ladd, ev_scale, ev_scale, h, q3]; grind) hz ns
    have l := (pmul_shape q' s hz ns).1
    rw [← e] at l
    rw [ladd_length, List.length_map, List.length_map] at w2
    omega
theorem chain_step {an bn fs ss rs ps : List Int} {S : Int} {q : List Rat} {α l N : Nat} (I : ChI an bn fs ss) (ta : Tr (toR an)) (tb : Tr (toR bn)) (tf : Tr (toR fs)) (ts : Tr (toR ss)) (ns : ss ≠ [])
    (za : ∀ n ∈ an, Bz α n) (zb : ∀ n ∈ bn, Bz α n) (hN : an.length + bn.length ≤ N) (hl : N ≤ 2 ^ l) (hS : S ≠ 0) (h : ∀ z, (S : Rat) * ev (toR fs) z = ev q z * ev (toR ss) z + ev (toR rs) z) (lr : rs.length < ss.length) (hp : PrimOf rs ps) (lp : ps.length ≤ rs.length) :
    ChI an bn ss ps ∧ ∀ n ∈ ps, Bz (bChain l α N) n := by
  have hSr : (S : Rat) ≠ 0 := by exact_mod_cast hS
  have nsr : toR ss ≠ [] := fun z => ns (toR_nil_iff.mp z)
  obtain ⟨r, hr0, hr⟩ := hp.c
  -- the new state, by the way it is reached
  have key : ∃ (a b : List Int) (u1 v1 u2 v2 : List Rat) (c : Rat), ((a = an ∧ b = bn) ∨ (a = bn ∧ b = an)) ∧ Pr (toR a) (toR b) (toR ss) (toR ps) u1 v1 u2 v2 c ∧ ps.length < ss.length ∧ ps.length ≤ a.length ∧ ps.length ≤ b.length := by
    have step : ∀ {a b : List Int} {u1 v1 u2 v2 : List Rat} {c : Rat}, Pr (toR a) (toR b) (toR fs) (toR ss) u1 v1 u2 v2 c → ss.length ≤ fs.length → ∃ u' v' c', Pr (toR a) (toR b) (toR ss) (toR ps) u2 v2 u' v' c' := fun {a b u1 v1 u2 v2 c} P hsf => by
      obtain ⟨q', hq', lq'⟩ := quo_len tf ts nsr hSr (by rw [toR_len, toR_len]; exact lr) (by rw [toR_len, toR_len]; exact hsf) h
      exact pr_step P hSr hr0 (by rw [toR_len, toR_len]; exact hsf) lq' fun z => by
        rw [hr, hq', h]
        grind
    rcases I with ⟨rfl, rfl⟩ | ⟨a, b, u1, v1, u2, v2, c, hab, P, l1, l2, l3⟩
    · by_cases hsf : ss.length ≤ fs.length
      · obtain ⟨u', v', c', P'⟩ := step (pr_start (toR fs) (toR ss)) hsf
        exact ⟨fs, ss, _, _, u', v', c', .inl ⟨rfl, rfl⟩, P', by omega, by omega, by omega⟩
      · -- the first one is shorter: it is the rest itself
        obtain ⟨q', q1, _, q3⟩ := trim_ex q
        obtain ⟨w, w1, w2, w3⟩ := trim_ex (ladd ((toR fs).map ((S : Rat) * ·)) ((toR rs).map ((-1 : Rat) * ·)))
        have e : q' = [] := no_small q1 ts nsr w1 (by rw [ladd_length, List.length_map, List.length_map, toR_len, toR_len] at w2; rw [toR_len]; omega) fun z => by
          rw [w3, ev_ladd, ev_scale, ev_scale, h, q3]
          grind
        have hq0 : ∀ z, ev q z = 0 := fun z => by rw [← q3, e]; rfl
        have hps : ∀ z, ev (toR ps) z = (r * S) * ev (toR fs) z := fun z => by
          have h1 := h z
          rw [hq0] at h1
          rw [hr]
          grind
        have hrs : r * (S : Rat) ≠ 0 := by grind
        have eps : toR ps = smul (r * S) (toR fs) := ev_inj hp.tr (fun hn => by
          have hl : toR fs ≠ [] := fun z => hn (by rw [z]; rfl)
          have h2 := tf hl
          rw [List.getLast_eq_getElem] at h2 ⊢
          have e1 := at0_get (l := toR fs) (i := (toR fs).length - 1) (by have := List.length_pos_iff.mpr hl; omega)
          rw [List.getElem?_eq_getElem (by have := List.length_pos_iff.mpr hl; omega)] at e1
          have e2 := at0_get (l := smul (r * S) (toR fs)) (i := (smul (r * S) (toR fs)).length - 1) (by have := List.length_pos_iff.mpr hn; omega)
          rw [List.getElem?_eq_getElem (by have := List.length_pos_iff.mpr hn; omega)] at e2
          rw [Option.some.inj e2, at0_smul, smul_len]
          rw [Option.some.inj e1] at h2
          grind) fun z => by rw [hps, ev_smul]
        have lps : ps.length = fs.length := by
          have := congrArg List.length eps
          rwa [toR_len, smul_len, toR_len] at this
        refine ⟨ss, fs, [1], [], [], [r * S], r * S, .inr ⟨rfl, rfl⟩, ⟨fun z => ?_, fun z => ?_, fun z => ?_, hrs, ?_, ?_⟩, by omega, by omega, by omega⟩
        · rw [ev_one, ev_nil]
          grind
        · rw [hps, ev_nil, show ev [r * (S : Rat)] z = r * S + z * 0 from rfl]
          grind
        · rw [ev_one, ev_nil, show ev [r * (S : Rat)] z = r * S + z * 0 from rfl]
          grind
        · show 0 + _ ≤ _
          omega
        · show 1 + _ ≤ _
          omega
    · obtain ⟨u', v', c', P'⟩ := step P (by omega)
      exact ⟨a, b, _, _, u', v', c', hab, P', by omega, by omega, by omega⟩
  refine ⟨.inr key, fun n hn => ?_⟩
  obtain ⟨a, b, u1, v1, u2, v2, c, hab, P, l1, l2, l3⟩ := key
  have hps : ps ≠ [] := fun z => by rw [z] at hn; cases hn
  have hpos := List.length_pos_iff.mpr hps
  have ab : Tr (toR a) ∧ (∀ n ∈ a, Bz α n) ∧ (∀ n ∈ b, Bz α n) ∧ a.length + b.length ≤ N ∧ 2 * ps.length < a.length + b.length := by
    rcases hab with ⟨rfl, rfl⟩ | ⟨rfl, rfl⟩
    · refine ⟨ta, za, zb, hN, ?_⟩
      have := P.l2
      have := P.l1
      rcases I with ⟨rfl, rfl⟩ | ⟨a', b', _, _, _, _, _, h', _, i1, i2, i3⟩
      · omega
      · rcases h' with ⟨rfl, rfl⟩ | ⟨rfl, rfl⟩ <;> omega
    · refine ⟨tb, zb, za, by omega, ?_⟩
      rcases I with ⟨rfl, rfl⟩ | ⟨a', b', _, _, _, _, _, h', _, i1, i2, i3⟩
      · omega
      · rcases h' with ⟨rfl, rfl⟩ | ⟨rfl, rfl⟩ <;> omega
  obtain ⟨ta', za', zb', hN', h2⟩ := ab
  have := chain_bits (p := ps) (r := 1) P ta' (fun z => by rw [z] at l2; exact absurd l2 (by show ¬ ps.length ≤ 0; omega)) hp.tr (fun z => hps (toR_nil_iff.mp z)) (by rw [toR_len, toR_len]; exact l1) (by rw [toR_len]; exact l2) (by rw [toR_len]; exact l3) (by rw [toR_len]; exact h2) za' zb' (Nat.le_trans hN' hl) (hp.g hps) (by decide) (smul_one _).symm n hn
  refine this.mono ?_
  unfold bChain
  have := Nat.mul_le_mul_left (l + α) hN'
  omega
/-- at the end -/
theorem chain_end {an bn fs : List Int} (I : ChI an bn fs []) : (∃ x : List Rat, ∀ z, ev (toR an) z = ev x z * ev (toR fs) z) ∧ (∃ y : List Rat, ∀ z, ev (toR bn) z = ev y z * ev (toR fs) z) ∧ ∃ e h : List Rat, ∀ z, ev (toR fs) z = ev e z * ev (toR an) z + ev h z * ev (toR bn) z := by
  have e0 : ∀ z, ev (toR []) z = 0 := fun z => rfl
  rcases I with ⟨rfl, rfl⟩ | ⟨a, b, u1, v1, u2, v2, c, hab, P, _, _, _⟩
  · refine ⟨⟨[1], fun z => by rw [ev_one]; grind⟩, ⟨[], fun z => by rw [e0, ev_nil]; grind⟩, ⟨[1], [], fun z => by rw [ev_one, ev_nil]; grind⟩⟩
  · have c0 := P.c0
    have h1 : ∀ z, ev (toR a) z = ev (smul (1 / c) v2) z * ev (toR fs) z := fun z => by
      have h := P.es z
      rw [e0] at h
      have hd := P.det z
      have : c * ev (toR a) z = ev v2 z * ev (toR fs) z := by
        rw [P.ef, ← hd]
        have : ev v2 z * (ev u1 z * ev (toR a) z + ev v1 z * ev (toR b) z) = ev u1 z * ev v2 z * ev (toR a) z + ev v1 z * (ev v2 z * ev (toR b) z) := by grind
        rw [this]
        have h2 : ev v2 z * ev (toR b) z = -(ev u2 z * ev (toR a) z) := by grind
        rw [h2]
        grind
      rw [ev_smul]
      grind
    have h2 : ∀ z, ev (toR b) z = ev (smul (-(1 / c)) u2) z * ev (toR fs) z := fun z => by
      have h := P.es z
      rw [e0] at h
      have hd := P.det z
      have : c * ev (toR b) z = -(ev u2 z * ev (toR fs) z) := by
        rw [P.ef, ← hd]
        have : ev u2 z * (ev u1 z * ev (toR a) z + ev v1 z * ev (toR b) z) = ev u1 z * (ev u2 z * ev (toR a) z) + ev u2 z * ev v1 z * ev (toR b) z := by grind
        rw [this]
        have h2 : ev u2 z * ev (toR a) z = -(ev v2 z * ev (toR b) z) := by grind
        rw [h2]
        grind
      rw [ev_smul]
      grind
    rcases hab with ⟨rfl, rfl⟩ | ⟨rfl, rfl⟩
    · exact ⟨⟨_, h1⟩, ⟨_, h2⟩, ⟨u1, v1, P.ef⟩⟩
    · exact ⟨⟨_, h2⟩, ⟨_, h1⟩, ⟨v1, u1, fun z => by rw [P.ef]; grind⟩⟩
end Vx
namespace Vx
def Qd (q : Rat) : Prop := q.num.natAbs ≤ 12 ∧ q.den ≤ 5
theorem Qd.z {q : Rat} (h : Qd q) : Qz 4 q := ⟨Nat.lt_of_le_of_lt h.1 (by decide), Nat.lt_of_le_of_lt h.2 (by decide)⟩
def Qsd (l : List Rat) : Prop := ∀ c ∈ l, Qd c
theorem Qsd.z {l : List Rat} (h : Qsd l) : Qs 4 l := fun c hc => (h c hc).z
theorem qd_int {i : Int} (h : i.natAbs ≤ 12) : Qd (i : Rat) := ⟨h, by show 1 ≤ 5; decide⟩
theorem qd1 : Qd 1 := ⟨by decide, by decide⟩
theorem qd_div {n m : Int} (h1 : n.natAbs ≤ 12) (h2 : m.natAbs ≤ 5) (h0 : m ≠ 0) : Qd (Rat.divInt n m) := by
  constructor
  · rw [Rat.num_divInt]
    refine Nat.le_trans ?_ h1
    have : (m.sign * n / (m.gcd n : Int)).natAbs ≤ (m.sign * n).natAbs := Int.natAbs_ediv_le_natAbs _ _
    rw [Int.natAbs_mul] at this
    have hs : m.sign.natAbs ≤ 1 := by
      rcases Int.lt_trichotomy m 0 with h | h | h
      · rw [Int.sign_eq_neg_one_of_neg h]; decide
      · omega
      · rw [Int.sign_eq_one_of_pos h]; decide
    calc _ ≤ m.sign.natAbs * n.natAbs := this
      _ ≤ 1 * n.natAbs := Nat.mul_le_mul_right _ hs
      _ = n.natAbs := Nat.one_mul _
  · rw [Rat.den_divInt, if_neg h0]
    exact Nat.le_trans (Nat.div_le_self _ _) h2
theorem cd_of_qd {l : List Rat} (h : Qsd l) : Cd 6 10 l := by
  refine ⟨60, by decide, by decide, fun c hc => ?_⟩
  obtain ⟨h1, h2⟩ := h c hc
  have hdv : c.den ∣ 60 := by
    have : ∀ d, d < 6 → d ≠ 0 → d ∣ 60 := by decide
    exact this _ (by omega) c.den_nz
  refine ⟨_, mul_den hdv, ?_⟩
  rw [Int.natAbs_mul, Int.natAbs_natCast]
  have h3 : 60 / c.den ≤ 60 := Nat.div_le_self _ _
  exact Nat.le_trans (Nat.mul_le_mul h1 h3) (by decide)
end Vx
-- pyl
set_option Elab.async false
set_option linter.all false
set_option maxRecDepth 100000
set_option maxHeartbeats 4000000
namespace Vx
open PySem PySem.Spec PyProof.Rows L2
local macro_rules | `(tactic| walk_at "cl") => `(tactic| first | rfl | assumption | omega | exact sz_of 0 rfl (by decide) | exact sz_of 1 rfl (by decide) | exact sz_of 2 rfl (by decide) | exact sz_of 3 rfl (by decide) | exact cmulx (by assumption) (by assumption) (by decide) | exact Bz.mono (Bz.mul (by assumption) (by assumption)) (by decide) | decide)
local macro_rules | `(tactic| walk_at "ex") => `(tactic| ((show Exists _); first | apply @Exists.intro V | apply @Exists.intro Int | apply @Exists.intro Addr | apply @Exists.intro (List V) | apply @Exists.intro Nat | apply @Exists.intro Str | apply @Exists.intro Bool | apply @Exists.intro (Option V) | apply @Exists.intro String | apply @Exists.intro Rat | apply @Exists.intro (List Rat)))
local macro_rules | `(tactic| walk_at "rd") => `(tactic| ((repeat (first | (walk_at "ex") | (apply And.intro; (focus (walk_at "cl"))))); (try dsimp only [])))
local macro_rules | `(tactic| walk_at "r0") => `(tactic| (repeat (first | (walk_at "ex") | (apply And.intro; (focus (walk_at "cl"))))))

section
variable {P : Program} {w : World} {K : PySem.W.Frag} {mg : Str → Option Value} {base : Heap}
theorem sc_pull : FnScope ["reel", "many", "digit", "seed"] ["reel", "many"] (defScope s__law_pull) := ⟨rfl, rfl, rfl, by decide +kernel, rfl, by decide +kernel, by decide +kernel⟩
theorem d_pull (W : FunIn K mg "_law_pull" s__law_pull) (T : Bls mg) : Df P w K mg base "_law_pull" 1 ["reel", "many"] spPull := by
  obtain ⟨f, fd, F, hm⟩ := W
  refine ⟨f, fd, F.ok sc_pull (fun vs H Q E h => ?_) (fun cdv A outer s H vs Q E hr h => ?_), hm, F.kp, F.binds fun _ _ _ _ _ _ us hl => match us, hl with | [_, _], _ => rfl⟩
  · obtain ⟨a, m, rfl, _⟩ := h
    rfl
  · obtain ⟨a, m, rfl, ⟨x, y, z, h0⟩, hm0, hm1, q⟩ := h
    have nd := sc_pull.nd
    refine ⟨_, (pss_cons (ps_if (pt_cmpR op_gt (pe_ix ix_list (pv 0) pe_int (fun _ _ => rfl)) pe_int (nomark _)) (pss_cons (ps_asg (pe_callB call_divmodW (by rfl) T.n_divmod (by decide +kernel) (pa_cons (pe_ix ix_list (pv 0) pe_int (fun _ _ => rfl)) (pa_cons (pv 1) pa_nil))) (pg_tup rfl (pgs_cons (pg_sub (pv 0) pe_int set_list) (pgs_cons (pg_name (i := 2) nd rfl (Or.inl rfl)) pgs_nil))))
        (pss_one (ps_ret (pv 2)))) pss_nil)
        (pss_cons (ps_asg (pe_op op_add (pe_ix ix_list (pv 0) pe_int (fun _ _ => rfl)) pe_int) (pg_sub (pv 0) pe_int set_list))
        (pss_cons (ps_set (i := 3) nd rfl (Or.inl rfl) (pe_op op_mod (pe_callTy call_int1 (by rfl) T.n_int (by decide +kernel) (pa_cons (pe_op op_add (pe_ix ix_list (pv 0) pe_int (fun _ _ => rfl)) (pe_op op_mul pe_int (pe_ix ix_list (pv 0) pe_int (fun _ _ => rfl)))) pa_nil)) pe_int))
        (pss_cons (ps_asg (pe_op op_mod (pe_callTy call_int1 (by rfl) T.n_int (by decide +kernel) (pa_cons (pe_op op_add (pe_op op_mul (pv 3) (pe_op op_add (pe_op op_mod (pe_callTy call_int1 (by rfl) T.n_int (by decide +kernel) (pa_cons (pv 3) pa_nil)) pe_int) pe_int)) (pe_op op_mul pe_int (pe_ix ix_list (pv 0) pe_int (fun _ _ => rfl)))) pa_nil)) pe_int) (pg_sub (pv 0) pe_int set_list))
        (pss_one (ps_ret (pe_op op_mod (pe_callTy call_int1 (by rfl) T.n_int (by decide +kernel) (pa_cons (pe_op op_fdiv (pe_ix ix_list (pv 0) pe_int (fun _ _ => rfl)) pe_int) pa_nil)) (pv 1)))))))), ?_⟩
    refine ⟨_, rfl, _, _, _, _, rfl, rfl, SqL.of h0, rfl, _, _, rfl, rfl, _, rfl, ?_⟩
    by_cases hx : (0 : Int) < x
    · rw [decide_eq_true hx]
      refine iteT ?_
      refine ⟨_, rfl, _, _, _, _, rfl, rfl, SqL.of h0, rfl, _, rfl, _, _, rfl, divp_small hm0 hm1, fun p hp => ?_⟩
      have na : a ≠ p := ne_of_none h0 hp
      have h1 : upd H p (.tup [.int (x / m), .int (x % m)]) a = some (.lst [.int x, .int y, .int z]) := by rw [upd_ne na]; exact h0
      refine ⟨_, _, rfl, SqT.of upd_same, rfl, _, _, rfl, ⟨_, rfl, _, _, _, _, rfl, rfl, h1, rfl, ?_⟩⟩
      refine ⟨_, _, rfl, ⟨rfl, ?_⟩⟩
      refine ⟨_, rfl, ?_⟩
      refine q _ _ (Int.emod_nonneg _ (by omega)) (Int.emod_lt_of_pos _ hm0) ⟨_, _, _, upd_same⟩ fun b o e nb => ?_
      rw [upd_ne nb, upd_ne (ne_of_none e hp)]
      exact e
    · rw [decide_eq_false hx]
      refine iteF ?_
      refine ⟨_, rfl, _, _, _, _, rfl, rfl, SqL.of h0, rfl, _, _, rfl, rfl, _, rfl, _, _, _, _, rfl, rfl, h0, rfl, ?_⟩
      have h1 : upd H a (.lst [.int x, .int y, .int (z + 1)]) a = some (.lst [.int x, .int y, .int (z + 1)]) := upd_same
      refine ⟨_, rfl, _, _, _, _, rfl, rfl, SqL.of h1, rfl, _, rfl, _, _, _, _, rfl, rfl, SqL.of h1, rfl, _, _, rfl, rfl, Or.inl (by constructor <;> omega), _, _, rfl, rfl, Or.inl ⟨_, rfl, _, _, rfl, rfl, (by show (0 : Int) < _; decide), ?_⟩⟩
      have s0 : (0 : Int) ≤ (y + 50021 * (z + 1)) % 2147483497 := Int.emod_nonneg _ (by decide)
      have s1 : (y + 50021 * (z + 1)) % 2147483497 < 2147483497 := Int.emod_lt_of_pos _ (by decide)
      refine ⟨_, rfl, _, rfl, Or.inl ⟨_, rfl, _, _, rfl, rfl, (by show (0 : Int) < _; decide), _, _, rfl, rfl, _, _, rfl, rfl, Or.inl (by constructor <;> omega), _, rfl, _, _, _, _, rfl, rfl, SqL.of h1, rfl, _, _, rfl, rfl, Or.inl (by constructor <;> omega), _, _, rfl, rfl, Or.inl ⟨_, rfl, _, _, rfl, rfl, (by show (0 : Int) < _; decide), _, rfl, _, _, _, _, rfl, rfl, h1, rfl, ?_⟩⟩⟩
      rw [upd_upd]
      refine ⟨_, rfl, _, _, _, _, rfl, rfl, SqL.of upd_same, rfl, _, _, rfl, rfl, (by constructor <;> omega), Or.inl ⟨_, rfl, _, rfl, _, _, rfl, rfl, hm0, ?_⟩⟩
      exact q _ _ (Int.emod_nonneg _ (by omega)) (Int.emod_lt_of_pos _ hm0) ⟨_, _, _, upd_same⟩ but_upd
theorem cut_map (ns : List Int) (lo hi : Option Int) : ∃ ms : List Int, cutV (ns.map V.int) lo hi = ms.map V.int ∧ ms.length ≤ ns.length := by
  refine ⟨(ns.drop (HT.sIx ns.length 0 lo)).take (HT.sIx ns.length ns.length hi - HT.sIx ns.length 0 lo), ?_, ?_⟩
  · unfold cutV
    rw [List.length_map, List.map_take, List.map_drop]
  · rw [List.length_take, List.length_drop]
    omega
/-- _law_reel: a new reel; nothing else has changed -/
def spReel (K : PySem.W.Frag) : Sp := fun vs H Q _ => ∃ (a : Addr) (ns : List Int) (t : Int), vs = [.ref a, .int t] ∧ SqL K H a (ns.map V.int) ∧ ns.length ≤ 63 ∧ 0 ≤ t ∧ t < 100 ∧
  ∀ (p : Addr) (H' : Hp), H p = none → RlAt p H' → Same H H' → Q (.ref p) H'
theorem sc_reel : FnScope ["script", "turn", "state", "cell", "own"] ["script", "turn"] (defScope s__law_reel) := ⟨rfl, rfl, rfl, by decide +kernel, rfl, by decide +kernel, by decide +kernel⟩
theorem d_reel (W : FunIn K mg "_law_reel" s__law_reel) (T : Bls mg) : Df P w K mg base "_law_reel" 1 ["script", "turn"] (spReel K) := by
  obtain ⟨f, fd, F, hm⟩ := W
  refine ⟨f, fd, F.ok sc_reel (fun vs H Q E h => ?_) (fun cdv A outer s H vs Q E hr h => ?_), hm, F.kp, F.binds fun _ _ _ _ _ _ us hl => match us, hl with | [_, _], _ => rfl⟩
  · obtain ⟨a, ns, t, rfl, _⟩ := h
    rfl
  · obtain ⟨a, ns, t, rfl, hS, hlen, t0, t1, q⟩ := h
    have nd := sc_reel.nd
    refine ⟨_, (pss_cons (ps_set (i := 2) nd rfl (Or.inl rfl) (pe_op op_add pe_int (pe_op op_mul pe_int (pv 1))))
        (pss_cons (ps_for PassesOwn.never rfl (pi_list (pe_slice sl_list (pv 0) po_none (po_some pe_int))) (pg_name (i := 3) nd rfl (Or.inl rfl)) (pss_one (ps_set (i := 2) nd rfl (Or.inl rfl) (pe_op op_mod (pe_callTy call_int1 (by rfl) T.n_int (by decide +kernel) (pa_cons (pe_op op_add (pe_op op_add (pe_op op_mul (pv 2) pe_int) (pe_op op_mod (pe_callTy call_int1 (by rfl) T.n_int (by decide +kernel) (pa_cons (pv 3) pa_nil)) pe_int)) pe_int) pa_nil)) pe_int))))
        (pss_cons (ps_set (i := 4) nd rfl (Or.inl rfl) (pe_ifExp (pt_cmpR op_lt (pv 1) (pe_callB call_len_seq (by rfl) T.n_len (by decide +kernel) (pa_cons (pv 0) pa_nil)) (nomark _)) (pe_callB call_abs (by rfl) T.n_abs (by decide +kernel) (pa_cons (pe_callTy call_int1 (by rfl) T.n_int (by decide +kernel) (pa_cons (pe_ix ix_list (pv 0) (pv 1) (fun _ _ => rfl)) pa_nil)) pa_nil)) pe_int))
        (pss_one (ps_ret (pe_lst (pa_cons (pe_ifExp (pt_cmpR op_ge (pv 4) (pe_op op_pow pe_int pe_int) (nomark _)) (pv 4) pe_int) (pa_cons (pe_op op_mod (pe_callTy call_int1 (by rfl) T.n_int (by decide +kernel) (pa_cons (pe_op op_add (pe_op op_mul (pv 2) pe_int) (pe_op op_mul (pe_op op_mod (pe_callTy call_int1 (by rfl) T.n_int (by decide +kernel) (pa_cons (pv 4) pa_nil)) pe_int) pe_int)) pa_nil)) pe_int) (pa_cons pe_int pa_nil))))))))), ?_⟩
    refine ⟨_, rfl, _, _, rfl, rfl, Or.inl (by constructor <;> omega), _, _, rfl, rfl, ?_⟩
    refine ⟨_, rfl, _, rfl, _, _, rfl, hS, fun c hc => ?_⟩
    obtain ⟨ms, em, lm⟩ := cut_map ns none (some 8)
    rw [em]
    have s0 : Same H (upd H c (.lst (ms.map V.int))) := same_new hc
    refine ⟨c, rfl, ⟨_, SqL.of upd_same⟩, for_list (K := K) (a := c) (xs := ms.map V.int) (fun i σ H2 => ∃ (x : Int) (v : Option V), σ = [some (.ref a), some (.int t), some (.int x), v, none] ∧ 0 ≤ x ∧ x < 2147483497 ∧ H2 = upd H c (.lst (ms.map V.int)))
      ⟨_, _, rfl, by omega, by omega, rfl⟩ (fun i σ H2 _ ⟨_, _, _, _, _, e⟩ => by rw [e]; exact SqL.of upd_same) ?_ ?_⟩
    · rintro i y σ H2 hi ⟨x, v, rfl, x0, x1, rfl⟩
      obtain ⟨n, _, rfl⟩ := List.mem_map.mp (List.mem_of_getElem? hi)
      refine ⟨_, rfl, _, _, rfl, rfl, Or.inl (by constructor <;> omega), _, rfl, Or.inl ⟨_, rfl, _, _, rfl, rfl, (by show (0 : Int) < _; decide), _, _, rfl, rfl, _, _, rfl, rfl, Or.inl ⟨_, rfl, _, _, rfl, rfl, (by show (0 : Int) < _; decide), ?_⟩⟩⟩
      exact ⟨_, _, rfl, Int.emod_nonneg _ (by decide), Int.emod_lt_of_pos _ (by decide), rfl⟩
    · rintro σ H2 ⟨x, v, rfl, x0, x1, rfl⟩
      have hS2 : SqL K (upd H c (.lst (ms.map V.int))) a (ns.map V.int) := s0.seq hS
      refine ⟨_, rfl, _, rfl, _, _, rfl, Or.inl hS2, _, _, rfl, rfl, _, rfl, ?_⟩
      rw [List.length_map]
      by_cases ht : t < (ns.length : Int)
      case' pos =>
        rw [decide_eq_true ht]
        refine iteT ?_
        have hn : t.toNat < ns.length := by omega
        refine ⟨_, rfl, _, rfl, _, _, _, _, rfl, rfl, hS2, at_of (j := t.toNat) (by omega) (by rw [List.getElem?_map, List.getElem?_eq_getElem hn]; rfl), Or.inl ⟨_, rfl, _, rfl, ?_⟩⟩
      case' neg =>
        rw [decide_eq_false ht]
        refine iteF ?_
      all_goals
        refine ⟨_, rfl, _, _, rfl, rfl, ⟨by decide, by decide, by decide⟩, _, _, rfl, rfl, _, rfl, ?_⟩
        refine ite2 (fun _ => ⟨_, rfl, ?_⟩) (fun _ => ?_)
        all_goals
          refine ⟨_, rfl, _, _, rfl, rfl, Or.inl (by constructor <;> omega), _, rfl, Or.inl ⟨_, rfl, _, _, rfl, rfl, (by show (0 : Int) < _; decide), _, _, rfl, rfl, Or.inr (by constructor <;> decide), _, _, rfl, rfl, Or.inl ⟨_, rfl, _, _, rfl, rfl, (by show (0 : Int) < _; decide), (by show 3 ≤ sizeLine; decide), fun p hp => ?_⟩⟩⟩
          exact q p _ (s0.free hp) ⟨_, _, _, upd_same⟩ (s0.trans (same_new hp))
theorem but_seq {a l : Addr} {H H' : Hp} {xs : List V} (e : But a H H') (n : l ≠ a) (h : SqL K H l xs) : SqL K H' l xs := by
  rcases h with (h | ⟨o, h⟩) | h
  · exact Or.inl (Or.inl (e _ _ h n))
  · exact Or.inl (Or.inr ⟨o, e _ _ h n⟩)
  · exact Or.inr h
/-- _law_one_of: some item of the list -/
def spOneOf (K : PySem.W.Frag) : Sp := fun vs H Q _ => ∃ (a l : Addr) (xs : List V), vs = [.ref a, .ref l] ∧ RlAt a H ∧ SqL K H l xs ∧ l ≠ a ∧ 0 < xs.length ∧ xs.length < 1000 ∧
  ∀ (v : V) (H' : Hp), v ∈ xs → RlAt a H' → But a H H' → Q v H'
end

section
variable {P : Program} {w : World} {K : PySem.W.Frag} {mg : Str → Option Value} {base : Heap}
/-- the law's own fraction in lowest terms -/
def spLow (K : PySem.W.Frag) : Sp := fun vs H Q _ => ∃ n m : Int, vs = [.int n, .int m] ∧ 0 < m ∧ Bz 8000 m ∧ ∀ v H', Same H H' → FrT K H' v (Rat.divInt n m) → Q v H'
theorem sc__law_lowest : FnScope ["n", "m", "a", "b"] ["n", "m"] (defScope s__law_lowest) := ⟨rfl, rfl, rfl, by decide +kernel, rfl, by decide +kernel, by decide +kernel⟩
theorem d__law_lowest (W : FunIn K mg "_law_lowest" s__law_lowest) (T : Blt mg) : Df P w K mg base "_law_lowest" 33 ["n", "m"] (spLow K) := by
  obtain ⟨f, fd, F, hm⟩ := W
  refine ⟨f, fd, F.ok sc__law_lowest (fun vs H Q E h => ?_) (fun cdv A outer s H vs Q E hr h => ?_), hm, F.kp, F.binds fun _ _ _ _ _ _ us hl => match us, hl with | [_, _], _ => rfl⟩
  · obtain ⟨n, m, rfl, _⟩ := h
    rfl
  · obtain ⟨n, m, rfl, hm0, hmz, q⟩ := h
    have nd := sc__law_lowest.nd
    obtain ⟨e1, e2⟩ := fr_pos_f (n := n) hm0
    have hg : ((n.natAbs.gcd m.natAbs : Nat) : Int) ≠ 0 := by
      have := Nat.gcd_pos_of_pos_right n.natAbs (show 0 < m.natAbs by omega)
      omega
    have hgz : Bz 8000 ((n.natAbs.gcd m.natAbs : Nat) : Int) := by
      unfold Bz
      rw [Int.natAbs_natCast]
      exact Nat.lt_of_le_of_lt (Nat.gcd_le_right _ (by omega)) hmz
    have fin : ∀ p, H p = none → Q (.ref p) (upd H p (.tup [.int (Rat.divInt n m).num, .int (Rat.divInt n m).den])) := fun p hp => q _ _ (same_new hp) ⟨p, rfl, SqT.of upd_same⟩
    have c1 : ∀ i : Int, CDivX i ((n.natAbs.gcd m.natAbs : Nat) : Int) := fun i => cdivx hg hgz (by decide)
    have c2 := c1 n
    have c3 := c1 m
    have hgt : m > 0 := hm0
    have ea : (if n < 0 then -n else n) = (n.natAbs : Int) := by split <;> omega
    have em : (if m < 0 then -m else m) = (m.natAbs : Int) := by split <;> omega
    refine ⟨_, (pss_cons (ps_par (i := 2) (j := 3) (by rfl) nd rfl rfl (by decide) rfl rfl (pa_cons (pe_callB call_abs (by rfl) T.n_abs (by decide +kernel) (pa_cons (pv 0) pa_nil)) (pa_cons (pe_callB call_abs (by rfl) T.n_abs (by decide +kernel) (pa_cons (pv 1) pa_nil)) pa_nil)) (by rfl))
        (pss_cons (ps_while PassesOwn.never (pt_cmpR op_ne (pv 3) pe_int (nomark _)) (pss_one (ps_par (i := 2) (j := 3) (by rfl) nd rfl rfl (by decide) rfl rfl (pa_cons (pv 3) (pa_cons (pe_op op_mod (pe_callTy call_int1 (by rfl) T.n_int (by decide +kernel) (pa_cons (pv 2) pa_nil)) (pv 3)) pa_nil)) (by rfl))))
        (pss_one (ps_ret (pe_ifExp (pt_cmpR op_gt (pv 1) pe_int (nomark _)) (pe_tup (pa_cons (pe_op op_fdivX (pv 0) (pv 2)) (pa_cons (pe_op op_fdivX (pv 1) (pv 2)) pa_nil))) (pe_tup (pa_cons (pe_op op_sub pe_int (pe_op op_fdivX (pv 0) (pv 2))) (pa_cons (pe_op op_sub pe_int (pe_op op_fdivX (pv 1) (pv 2))) pa_nil)))))))), ?_⟩
    walk_at "rd"
    refine ⟨fun k σ H' => ∃ a b : Nat, σ = [some (.int n), some (.int m), some (.int (a : Int)), some (.int (b : Int))] ∧ H' = H ∧ k = b ∧ a.gcd b = n.natAbs.gcd m.natAbs, ⟨m.natAbs, n.natAbs, m.natAbs, by rw [ea, em]; rfl, rfl, rfl, rfl⟩, ?_⟩
    rintro b σ H' ⟨a, b', rfl, rfl, rfl, hab⟩
    walk_at "rd"
    refine tifn (fun hb => ?_) (fun hb => ?_)
    · have hb1 : b ≠ 0 := fun z => hb (by rw [z]; rfl)
      have hb0 : 0 < (b : Int) := by omega
      refine ⟨fun σ' H'' => σ' = [some (.int n), some (.int m), some (.int (b : Int)), some (.int ((a % b : Nat) : Int))] ∧ H'' = H', ?_, ?_⟩
      · rintro σ' H'' ⟨rfl, rfl⟩
        refine ⟨a % b, Nat.mod_lt _ (by omega), b, a % b, rfl, rfl, rfl, ?_⟩
        rw [← hab, Nat.gcd_comm a b, Nat.gcd_rec b a, Nat.gcd_comm]
      · refine ⟨V.int (b : Int), rfl, V.int (a : Int), rfl, Or.inl ⟨_, rfl, V.int (b : Int), rfl, _, _, rfl, rfl, hb0, _, _, rfl, ?_⟩⟩
        rw [Int.natCast_emod]
        exact ⟨rfl, rfl⟩
    · have hb0 : b = 0 := by
        have := V.int.inj hb
        omega
      subst hb0
      rw [Nat.gcd_zero_right] at hab
      subst hab
      walk_at "rd"
      refine tif (fun _ => ?_) (fun z => absurd hgt z)
      walk_at "rd"
      rw [e1, e2]
      exact fin
theorem sc__law_plus : FnScope ["one", "two"] ["one", "two"] (defScope s__law_plus) := ⟨rfl, rfl, rfl, by decide +kernel, rfl, by decide +kernel, by decide +kernel⟩
theorem d__law_plus (W : FunIn K mg "_law_plus" s__law_plus) (D_law_lowest : Df P w K mg base "_law_lowest" 33 ["n", "m"] (spLow K)) : Df P w K mg base "_law_plus" 34 ["one", "two"] (spR2 K (fun p q => p + q)) := by
  obtain ⟨f, fd, F, hm⟩ := W
  refine ⟨f, fd, F.ok sc__law_plus (fun vs H Q E h => ?_) (fun cdv A outer s H vs Q E hr h => ?_), hm, F.kp, F.binds fun _ _ _ _ _ _ us hl => match us, hl with | [_, _], _ => rfl⟩
  · obtain ⟨x, y, p, q, rfl, _⟩ := h
    rfl
  · obtain ⟨x, y, p, r, rfl, ⟨a, rfl, ha⟩, ⟨b, rfl, hb⟩, zp, zr, q⟩ := h
    have nd := sc__law_plus.nd
    have b1 := zp.n
    have b2 := zp.dd
    have b3 := zr.n
    have b4 := zr.dd
    have hd : 0 < (p.den : Int) * (r.den : Int) := Int.mul_pos (by have := p.den_nz; omega) (by have := r.den_nz; omega)
    refine ⟨_, (pss_one (ps_ret (pe_d D_law_lowest (hr.mono (by decide)) rfl (pa_cons (pe_op op_add (pe_op op_mulX (pe_ix ix_tup (pv 0) pe_int (fun _ _ => rfl)) (pe_ix ix_tup (pv 1) pe_int (fun _ _ => rfl))) (pe_op op_mulX (pe_ix ix_tup (pv 1) pe_int (fun _ _ => rfl)) (pe_ix ix_tup (pv 0) pe_int (fun _ _ => rfl)))) (pa_cons (pe_op op_mulX (pe_ix ix_tup (pv 0) pe_int (fun _ _ => rfl)) (pe_ix ix_tup (pv 1) pe_int (fun _ _ => rfl))) pa_nil))))), ?_⟩
    walk_at "rd"
    rw [fr_add]
    exact q
theorem sc__law_times : FnScope ["one", "two"] ["one", "two"] (defScope s__law_times) := ⟨rfl, rfl, rfl, by decide +kernel, rfl, by decide +kernel, by decide +kernel⟩
theorem d__law_times (W : FunIn K mg "_law_times" s__law_times) (D_law_lowest : Df P w K mg base "_law_lowest" 33 ["n", "m"] (spLow K)) : Df P w K mg base "_law_times" 34 ["one", "two"] (spR2 K (fun p q => p * q)) := by
  obtain ⟨f, fd, F, hm⟩ := W
  refine ⟨f, fd, F.ok sc__law_times (fun vs H Q E h => ?_) (fun cdv A outer s H vs Q E hr h => ?_), hm, F.kp, F.binds fun _ _ _ _ _ _ us hl => match us, hl with | [_, _], _ => rfl⟩
  · obtain ⟨x, y, p, q, rfl, _⟩ := h
    rfl
  · obtain ⟨x, y, p, r, rfl, ⟨a, rfl, ha⟩, ⟨b, rfl, hb⟩, zp, zr, q⟩ := h
    have nd := sc__law_times.nd
    have b1 := zp.n
    have b2 := zp.dd
    have b3 := zr.n
    have b4 := zr.dd
    have hd : 0 < (p.den : Int) * (r.den : Int) := Int.mul_pos (by have := p.den_nz; omega) (by have := r.den_nz; omega)
    refine ⟨_, (pss_one (ps_ret (pe_d D_law_lowest (hr.mono (by decide)) rfl (pa_cons (pe_op op_mulX (pe_ix ix_tup (pv 0) pe_int (fun _ _ => rfl)) (pe_ix ix_tup (pv 1) pe_int (fun _ _ => rfl))) (pa_cons (pe_op op_mulX (pe_ix ix_tup (pv 0) pe_int (fun _ _ => rfl)) (pe_ix ix_tup (pv 1) pe_int (fun _ _ => rfl))) pa_nil))))), ?_⟩
    walk_at "rd"
    rw [fr_mul]
    exact q
/-- a drawn fraction -/
def spPart (K : PySem.W.Frag) : Sp := fun vs H Q _ => ∃ (a : Addr), vs = [.ref a] ∧ RlAt a H ∧ ∀ v q H', RlAt a H' → But a H H' → FrT K H' v q → Qd q → Q v H'
def spSome (K : PySem.W.Frag) : Sp := fun vs H Q _ => ∃ (a : Addr), vs = [.ref a] ∧ RlAt a H ∧ ∀ v q H', RlAt a H' → But a H H' → FrT K H' v q → Qd q → q ≠ 0 → Q v H'
theorem frt_int {K : PySem.W.Frag} {H : Hp} {p : Addr} (i : Int) (h : SqT K H p [.int i, .int 1]) : FrT K H (.ref p) (i : Rat) := ⟨p, rfl, by simpa using h⟩
theorem qz_int {i : Int} {b : Nat} (h : i.natAbs < 2 ^ b) (hb : 0 < b) : Qz b (i : Rat) := ⟨by simpa using h, by simpa using Nat.one_lt_two_pow (by omega)⟩
theorem sc__law_part : FnScope ["reel", "top"] ["reel"] (defScope s__law_part) := ⟨rfl, rfl, rfl, by decide +kernel, rfl, by decide +kernel, by decide +kernel⟩
theorem d__law_part (W : FunIn K mg "_law_part" s__law_part) (D_law_pull : Df P w K mg base "_law_pull" 1 ["reel", "many"] spPull) (D_law_lowest : Df P w K mg base "_law_lowest" 33 ["n", "m"] (spLow K)) : Df P w K mg base "_law_part" 34 ["reel"] (spPart K) := by
  obtain ⟨f, fd, F, hm⟩ := W
  refine ⟨f, fd, F.ok sc__law_part (fun vs H Q E h => ?_) (fun cdv A outer s H vs Q E hr h => ?_), hm, F.kp, F.binds fun _ _ _ _ _ _ us hl => match us, hl with | [_], _ => rfl⟩
  · obtain ⟨a, rfl, _⟩ := h
    rfl
  · obtain ⟨a, rfl, hR, q⟩ := h
    have nd := sc__law_part.nd
    refine ⟨_, (pss_cons (ps_if (pt_cmpR op_eq (pe_d D_law_pull (hr.mono (by decide)) rfl (pa_cons (pv 0) (pa_cons pe_int pa_nil))) pe_int (nomark _)) (pss_one (ps_ret (pe_tup (pa_cons (pe_op op_sub (pe_d D_law_pull (hr.mono (by decide)) rfl (pa_cons (pv 0) (pa_cons pe_int pa_nil))) pe_int) (pa_cons pe_int pa_nil))))) pss_nil)
        (pss_cons (ps_set (i := 1) nd rfl (Or.inl rfl) (pe_op op_sub (pe_d D_law_pull (hr.mono (by decide)) rfl (pa_cons (pv 0) (pa_cons pe_int pa_nil))) pe_int))
        (pss_one (ps_ret (pe_d D_law_lowest (hr.mono (by decide)) rfl (pa_cons (pv 1) (pa_cons (pe_op op_add pe_int (pe_d D_law_pull (hr.mono (by decide)) rfl (pa_cons (pv 0) (pa_cons pe_int pa_nil)))) pa_nil))))))), ?_⟩
    walk_at "rd"
    intro d H1 d0 d1 hR1 hB1
    walk_at "rd"
    refine tif (fun _ => ?_) (fun _ => ?_)
    · walk_at "rd"
      intro d H2 d0 d1 hR2 hB2
      walk_at "rd"
      intro p hp
      have s3 := same_new (o := .tup [.int (d - 4), .int 1]) hp
      have na : a ≠ p := by
        obtain ⟨_, _, _, e⟩ := hR2
        exact ne_of_none e hp
      refine q _ ((d - 4 : Int) : Rat) _ ?_ (but_trans (but_trans hB1 hB2) (same_but a s3)) (frt_int _ (SqT.of upd_same)) (qd_int (by omega))
      obtain ⟨x, y, z, e⟩ := hR2
      exact ⟨x, y, z, s3 _ _ e⟩
    · walk_at "rd"
      intro d2 H2 d20 d21 hR2 hB2
      walk_at "rd"
      intro d3 H3 d30 d31 hR3 hB3
      have h0 : 0 < 1 + d3 := by omega
      have hz : Bz 8000 (1 + d3) := Bz.mono (b := 4) (by unfold Bz; omega) (by decide)
      walk_at "rd"
      intro v H4 s4 hv
      refine q v _ H4 ?_ (but_trans (but_trans (but_trans hB1 hB2) hB3) (same_but a s4)) hv (qd_div (by omega) (by omega) (by omega))
      obtain ⟨x, y, z, e⟩ := hR3
      exact ⟨x, y, z, s4 _ _ e⟩
theorem sc__law_some : FnScope ["reel", "found"] ["reel"] (defScope s__law_some) := ⟨rfl, rfl, rfl, by decide +kernel, rfl, by decide +kernel, by decide +kernel⟩
theorem d__law_some (W : FunIn K mg "_law_some" s__law_some) (D_law_part : Df P w K mg base "_law_part" 34 ["reel"] (spPart K)) : Df P w K mg base "_law_some" 35 ["reel"] (spSome K) := by
  obtain ⟨f, fd, F, hm⟩ := W
  refine ⟨f, fd, F.ok sc__law_some (fun vs H Q E h => ?_) (fun cdv A outer s H vs Q E hr h => ?_), hm, F.kp, F.binds fun _ _ _ _ _ _ us hl => match us, hl with | [_], _ => rfl⟩
  · obtain ⟨a, rfl, _⟩ := h
    rfl
  · obtain ⟨a, rfl, hR, q⟩ := h
    have nd := sc__law_some.nd
    refine ⟨_, (pss_cons (ps_set (i := 1) nd rfl (Or.inl rfl) (pe_d D_law_part (hr.mono (by decide)) rfl (pa_cons (pv 0) pa_nil)))
        (pss_one (ps_ret (pe_ifExp (pt_cmpR op_ne (pe_ix ix_tup (pv 1) pe_int (fun _ _ => rfl)) pe_int (nomark _)) (pv 1) (pe_tup (pa_cons pe_int (pa_cons pe_int pa_nil))))))), ?_⟩
    walk_at "rd"
    intro v r H1 hR1 hB1 hv hz
    obtain ⟨b, rfl, hb⟩ := hv
    walk_at "rd"
    refine tifn (fun h0 => ?_) (fun h0 => ?_)
    · walk_at "rd"
      refine q _ r H1 hR1 hB1 ⟨b, rfl, hb⟩ hz fun z => h0 ?_
      rw [z]
      rfl
    · walk_at "rd"
      intro p hp
      have s3 := same_new (o := .tup [.int 1, .int 1]) hp
      refine q _ 1 _ ?_ (but_trans hB1 (same_but a s3)) (frt_int 1 (SqT.of upd_same)) qd1 (by decide)
      obtain ⟨x, y, z, e⟩ := hR1
      exact ⟨x, y, z, s3 _ _ e⟩
end

end Vx
-- pyl
set_option Elab.async false
set_option linter.all false
set_option maxRecDepth 100000
set_option maxHeartbeats 4000000
namespace Vx
open PySem PySem.Spec PyProof.Rows L2
local macro_rules | `(tactic| walk_at "cl") => `(tactic| first | rfl | assumption | omega | exact sz_of 0 rfl (by decide) | exact sz_of 1 rfl (by decide) | exact sz_of 2 rfl (by decide) | exact sz_of 3 rfl (by decide) | exact cmulx (by assumption) (by assumption) (by decide) | exact Bz.mono (Bz.mul (by assumption) (by assumption)) (by decide) | decide)
local macro_rules | `(tactic| walk_at "ex") => `(tactic| ((show Exists _); first | apply @Exists.intro V | apply @Exists.intro Int | apply @Exists.intro Addr | apply @Exists.intro (List V) | apply @Exists.intro Nat | apply @Exists.intro Str | apply @Exists.intro Bool | apply @Exists.intro (Option V) | apply @Exists.intro String | apply @Exists.intro Rat | apply @Exists.intro (List Rat)))
local macro_rules | `(tactic| walk_at "rd") => `(tactic| ((repeat (first | (walk_at "ex") | (apply And.intro; (focus (walk_at "cl"))))); (try dsimp only [])))
local macro_rules | `(tactic| walk_at "r0") => `(tactic| (repeat (first | (walk_at "ex") | (apply And.intro; (focus (walk_at "cl"))))))

section
variable {P : Program} {w : World} {K : PySem.W.Frag} {mg : Str → Option Value} {base : Heap}
/-- a list or a tuple of fractions -/
def SqF (tup : Bool) (K : PySem.W.Frag) (H : Hp) (a : Addr) (us : List V) : Prop := if tup = true then SqT K H a us else SqL K H a us
/-- the row of these numbers -/
def spTrimL (K : PySem.W.Frag) : Sp := fun vs H Q _ => ∃ (l : Addr) (us : List V) (qs : List Rat), vs = [.ref l] ∧ SqL K H l us ∧ FrA K H us qs ∧ us.length < 1000 ∧
  ∀ v H' m, Same H H' → Tr (qs.take m) → (∀ c ∈ qs.drop m, c = 0) → RwT K H' v (qs.take m) → Q v H'
def spTrimT (K : PySem.W.Frag) : Sp := fun vs H Q _ => ∃ (l : Addr) (us : List V) (qs : List Rat), vs = [.ref l] ∧ SqT K H l us ∧ FrA K H us qs ∧ us.length < 1000 ∧
  ∀ v H' m, Same H H' → Tr (qs.take m) → (∀ c ∈ qs.drop m, c = 0) → RwT K H' v (qs.take m) → Q v H'
theorem sc__law_trim : FnScope ["numbers", "many", "turn"] ["numbers"] (defScope s__law_trim) := ⟨rfl, rfl, rfl, by decide +kernel, rfl, by decide +kernel, by decide +kernel⟩
theorem d__law_trimL (W : FunIn K mg "_law_trim" s__law_trim) (T : Blt mg) : Df P w K mg base "_law_trim" 33 ["numbers"] (spTrimL K) := by
  obtain ⟨f, fd, F, hm⟩ := W
  refine ⟨f, fd, F.ok sc__law_trim (fun vs H Q E h => ?_) (fun cdv A outer s H vs Q E hr h => ?_), hm, F.kp, F.binds fun _ _ _ _ _ _ us hl => match us, hl with | [_], _ => rfl⟩
  · obtain ⟨l, us, qs, rfl, _⟩ := h
    rfl
  · obtain ⟨l, us, qs, rfl, hl, hA, hlen, q⟩ := h
    have nd := sc__law_trim.nd
    have hL := hA.length
    have hl' : SqL K H l us ∨ SqT K H l us := Or.inl hl
    refine ⟨_, (pss_cons (ps_set (i := 1) nd rfl (Or.inl rfl) (pe_callB call_len_seq (by rfl) T.n_len (by decide +kernel) (pa_cons (pv 0) pa_nil)))
        (pss_cons (ps_for PassesOwn.never rfl (pi_range1 rfl T.n_range (pa_cons (pe_callB call_len_seq (by rfl) T.n_len (by decide +kernel) (pa_cons (pv 0) pa_nil)) pa_nil)) (pg_name (i := 2) nd rfl (Or.inl rfl) (Or.inr rfl)) (pss_cons (ps_if (pt_cmpR op_ne (pe_ix ix_tup (pe_ix ix_list (pv 0) (pe_op op_sub (pv 1) pe_int) (fun _ _ => rfl)) pe_int (fun _ _ => rfl)) pe_int (nomark _)) (pss_one ps_break) pss_nil)
        (pss_one (ps_set (i := 1) nd rfl (Or.inl rfl) (pe_op op_sub (pv 1) pe_int)))))
        (pss_one (ps_ret (pe_callTy call_tuple_of (by rfl) T.n_tuple (by decide +kernel) (pa_cons (pe_slice sl_list (pv 0) po_none (po_some (pv 1))) pa_nil)))))), ?_⟩
    walk_at "r0"
    refine for_range (n := us.length) (fun i σ H' => ∃ (o : Option V), σ = [some (.ref l), some (.int ((us.length - i : Nat) : Int)), o] ∧ H' = H ∧ ∀ c ∈ qs.drop (us.length - i), c = 0) ⟨none, rfl, rfl, fun c hc => by rw [Nat.sub_zero, hL, List.drop_length] at hc; cases hc⟩ ?_ ?_
    · rintro i σ H' hi ⟨o, rfl, rfl, hz⟩
      obtain ⟨u, hu⟩ : ∃ u, us[us.length - i - 1]? = some u := ⟨_, List.getElem?_eq_getElem (by omega)⟩
      obtain ⟨r, hr1, ⟨b, rfl, hb⟩⟩ := hA.get hu
      have hat : atI us (((us.length - i : Nat) : Int) - 1) = some (.ref b) := at_of (j := us.length - i - 1) (by omega) hu
      have hr2 : qs[us.length - i - 1]'(by omega) = r := by
        rw [List.getElem?_eq_getElem (by omega)] at hr1
        exact Option.some.inj hr1
      walk_at "rd"
      refine tifn (fun hne => ?_) (fun he => ?_)
      · have hr0 : r ≠ 0 := fun z => hne (by rw [z]; rfl)
        walk_at "rd"
        rw [cutV_take (by omega)]
        intro p hp
        have s1 := same_new (o := .lst (us.take (us.length - i))) hp
        have e1 : upd H' p (.lst (us.take (us.length - i))) p = some (.lst (us.take (us.length - i))) := upd_same
        generalize upd H' p (.lst (us.take (us.length - i))) = H1 at s1 e1
        refine ⟨_, _, rfl, Or.inl ⟨SqL.of e1, fun t ht' => ?_⟩⟩
        exact q _ _ (us.length - i) (s1.trans (same_new ht')) (tr_take_of (by omega) (by omega) (by rw [hr2]; exact hr0)) hz ⟨t, us.take (us.length - i), rfl, SqT.of upd_same, fra_mono (same_t (s1.trans (same_new ht'))) (hA.take (us.length - i))⟩
      · have hr0 : r = 0 := by
          have := V.int.inj he
          exact Rat.num_eq_zero.mp this
        walk_at "rd"
        refine ⟨?_, rfl, fun c hc => ?_⟩
        · have e1 : ((us.length - i : Nat) : Int) - 1 = ((us.length - (i + 1) : Nat) : Int) := by omega
          rw [e1]
          rfl
        · have e1 : us.length - (i + 1) = us.length - i - 1 := by omega
          have e2 : us.length - i - 1 + 1 = us.length - i := by omega
          rw [e1, List.drop_eq_getElem_cons (by omega), hr2, e2] at hc
          rcases List.mem_cons.mp hc with z | z
          · rw [z, hr0]
          · exact hz c z
    · rintro σ H' ⟨o, rfl, rfl, hz⟩
      walk_at "rd"
      rw [cutV_take (by omega)]
      intro p hp
      have s1 := same_new (o := .lst (us.take (us.length - us.length))) hp
      have e1 : upd H' p (.lst (us.take (us.length - us.length))) p = some (.lst (us.take (us.length - us.length))) := upd_same
      generalize upd H' p (.lst (us.take (us.length - us.length))) = H1 at s1 e1
      refine ⟨_, _, rfl, Or.inl ⟨SqL.of e1, fun t ht' => ?_⟩⟩
      exact q _ _ (us.length - us.length) (s1.trans (same_new ht')) (by rw [Nat.sub_self]; exact tr_nil) hz ⟨t, us.take (us.length - us.length), rfl, SqT.of upd_same, fra_mono (same_t (s1.trans (same_new ht'))) (hA.take (us.length - us.length))⟩
theorem d__law_trimT (W : FunIn K mg "_law_trim" s__law_trim) (T : Blt mg) : Df P w K mg base "_law_trim" 33 ["numbers"] (spTrimT K) := by
  obtain ⟨f, fd, F, hm⟩ := W
  refine ⟨f, fd, F.ok sc__law_trim (fun vs H Q E h => ?_) (fun cdv A outer s H vs Q E hr h => ?_), hm, F.kp, F.binds fun _ _ _ _ _ _ us hl => match us, hl with | [_], _ => rfl⟩
  · obtain ⟨l, us, qs, rfl, _⟩ := h
    rfl
  · obtain ⟨l, us, qs, rfl, hl, hA, hlen, q⟩ := h
    have nd := sc__law_trim.nd
    have hL := hA.length
    have hl' : SqL K H l us ∨ SqT K H l us := Or.inr hl
    refine ⟨_, (pss_cons (ps_set (i := 1) nd rfl (Or.inl rfl) (pe_callB call_len_seq (by rfl) T.n_len (by decide +kernel) (pa_cons (pv 0) pa_nil)))
        (pss_cons (ps_for PassesOwn.never rfl (pi_range1 rfl T.n_range (pa_cons (pe_callB call_len_seq (by rfl) T.n_len (by decide +kernel) (pa_cons (pv 0) pa_nil)) pa_nil)) (pg_name (i := 2) nd rfl (Or.inl rfl) (Or.inr rfl)) (pss_cons (ps_if (pt_cmpR op_ne (pe_ix ix_tup (pe_ix ix_tup (pv 0) (pe_op op_sub (pv 1) pe_int) (fun _ _ => rfl)) pe_int (fun _ _ => rfl)) pe_int (nomark _)) (pss_one ps_break) pss_nil)
        (pss_one (ps_set (i := 1) nd rfl (Or.inl rfl) (pe_op op_sub (pv 1) pe_int)))))
        (pss_one (ps_ret (pe_callTy call_tuple_of (by rfl) T.n_tuple (by decide +kernel) (pa_cons (pe_slice sl_tupA (pv 0) po_none (po_some (pv 1))) pa_nil)))))), ?_⟩
    walk_at "r0"
    refine for_range (n := us.length) (fun i σ H' => ∃ (o : Option V), σ = [some (.ref l), some (.int ((us.length - i : Nat) : Int)), o] ∧ H' = H ∧ ∀ c ∈ qs.drop (us.length - i), c = 0) ⟨none, rfl, rfl, fun c hc => by rw [Nat.sub_zero, hL, List.drop_length] at hc; cases hc⟩ ?_ ?_
    · rintro i σ H' hi ⟨o, rfl, rfl, hz⟩
      obtain ⟨u, hu⟩ : ∃ u, us[us.length - i - 1]? = some u := ⟨_, List.getElem?_eq_getElem (by omega)⟩
      obtain ⟨r, hr1, ⟨b, rfl, hb⟩⟩ := hA.get hu
      have hat : atI us (((us.length - i : Nat) : Int) - 1) = some (.ref b) := at_of (j := us.length - i - 1) (by omega) hu
      have hr2 : qs[us.length - i - 1]'(by omega) = r := by
        rw [List.getElem?_eq_getElem (by omega)] at hr1
        exact Option.some.inj hr1
      walk_at "rd"
      refine tifn (fun hne => ?_) (fun he => ?_)
      · have hr0 : r ≠ 0 := fun z => hne (by rw [z]; rfl)
        walk_at "rd"
        refine ⟨fun hw => ?_, fun hw p hp => ?_⟩
        · have em : us.length = us.length - i := by
            have h2 := hw.2
            rw [HT.sIx_nat, Nat.min_eq_left (by omega)] at h2
            exact h2.symm
          have et : us.take (us.length - i) = us := List.take_of_length_le (by omega)
          refine ⟨_, _, rfl, Or.inr ⟨hl, q _ _ (us.length - i) (Same.refl _) (tr_take_of (by omega) (by omega) (by rw [hr2]; exact hr0)) hz ⟨l, us.take (us.length - i), rfl, by rw [et]; exact hl, hA.take (us.length - i)⟩⟩⟩
        · rw [cutV_take (by omega)]
          refine ⟨_, _, rfl, Or.inr ⟨SqT.of upd_same, q _ _ (us.length - i) (same_new hp) (tr_take_of (by omega) (by omega) (by rw [hr2]; exact hr0)) hz ⟨p, us.take (us.length - i), rfl, SqT.of upd_same, fra_mono (same_t (same_new hp)) (hA.take (us.length - i))⟩⟩⟩
      · have hr0 : r = 0 := by
          have := V.int.inj he
          exact Rat.num_eq_zero.mp this
        walk_at "rd"
        refine ⟨?_, rfl, fun c hc => ?_⟩
        · have e1 : ((us.length - i : Nat) : Int) - 1 = ((us.length - (i + 1) : Nat) : Int) := by omega
          rw [e1]
          rfl
        · have e1 : us.length - (i + 1) = us.length - i - 1 := by omega
          have e2 : us.length - i - 1 + 1 = us.length - i := by omega
          rw [e1, List.drop_eq_getElem_cons (by omega), hr2, e2] at hc
          rcases List.mem_cons.mp hc with z | z
          · rw [z, hr0]
          · exact hz c z
    · rintro σ H' ⟨o, rfl, rfl, hz⟩
      walk_at "rd"
      refine ⟨fun hw => ?_, fun hw p hp => ?_⟩
      · have em : us.length = us.length - us.length := by
          have h2 := hw.2
          rw [HT.sIx_nat, Nat.min_eq_left (by omega)] at h2
          exact h2.symm
        have et : us.take (us.length - us.length) = us := List.take_of_length_le (by omega)
        refine ⟨_, _, rfl, Or.inr ⟨hl, q _ _ (us.length - us.length) (Same.refl _) (by rw [Nat.sub_self]; exact tr_nil) hz ⟨l, us.take (us.length - us.length), rfl, by rw [et]; exact hl, hA.take (us.length - us.length)⟩⟩⟩
      · rw [cutV_take (by omega)]
        refine ⟨_, _, rfl, Or.inr ⟨SqT.of upd_same, q _ _ (us.length - us.length) (same_new hp) (by rw [Nat.sub_self]; exact tr_nil) hz ⟨p, us.take (us.length - us.length), rfl, SqT.of upd_same, fra_mono (same_t (same_new hp)) (hA.take (us.length - us.length))⟩⟩⟩
end
section
variable {P : Program} {w : World} {K : PySem.W.Frag} {mg : Str → Option Value} {base : Heap}
/-- _law_at -/
def spAt (K : PySem.W.Frag) : Sp := fun vs H Q _ => ∃ (x : V) (qs : List Rat) (k : Nat), vs = [x, .int (k : Int)] ∧ RwT K H x qs ∧ ∀ v H', Same H H' → FrT K H' v (qs.getD k 0) → Q v H'
theorem sc__law_at : FnScope ["row", "k"] ["row", "k"] (defScope s__law_at) := ⟨rfl, rfl, rfl, by decide +kernel, rfl, by decide +kernel, by decide +kernel⟩
theorem d__law_at (W : FunIn K mg "_law_at" s__law_at) (T : Blt mg) : Df P w K mg base "_law_at" 33 ["row", "k"] (spAt K) := by
  obtain ⟨f, fd, F, hm⟩ := W
  refine ⟨f, fd, F.ok sc__law_at (fun vs H Q E h => ?_) (fun cdv A outer s H vs Q E hr h => ?_), hm, F.kp, F.binds fun _ _ _ _ _ _ us hl => match us, hl with | [_, _], _ => rfl⟩
  · obtain ⟨x, qs, k, rfl, _⟩ := h
    rfl
  · obtain ⟨x, qs, k, rfl, ⟨a, us, rfl, ha, hA⟩, q⟩ := h
    have nd := sc__law_at.nd
    have hL := hA.length
    have ha' : SqL K H a us ∨ SqT K H a us := Or.inr ha
    refine ⟨_, (pss_one (ps_ret (pe_ifExp (pt_chain op_le op_lt pe_int (pv 1) (pe_callB call_len_seq (by rfl) T.n_len (by decide +kernel) (pa_cons (pv 0) pa_nil))) (pe_ix ix_tup (pv 0) (pv 1) (fun _ _ => rfl)) (pe_tup (pa_cons pe_int (pa_cons pe_int pa_nil)))))), ?_⟩
    walk_at "rd"
    refine tif (fun hk => ?_) (fun hk => ?_)
    · have hk' : k < us.length := by omega
      obtain ⟨r, hr, hfr⟩ := hA.get (List.getElem?_eq_getElem hk')
      have hat : atI us (k : Int) = some us[k] := at_of (j := k) rfl (List.getElem?_eq_getElem hk')
      walk_at "rd"
      refine q _ H (Same.refl _) ?_
      rw [getD_some hr]
      exact hfr
    · walk_at "rd"
      intro p hp
      refine q _ _ (same_new hp) ?_
      rw [List.getD_eq_getElem?_getD, List.getElem?_eq_none (by omega)]
      exact ⟨p, rfl, SqT.of upd_same⟩
theorem ev_getD_add (ps qs : List Rat) (M : Nat) (h1 : ps.length ≤ M) (h2 : qs.length ≤ M) (x : Rat) : ev ((List.range M).map fun i => ps.getD i 0 + qs.getD i 0) x = ev ps x + ev qs x := by
  have l1 : (ps ++ List.replicate (M - ps.length) (0 : Rat)).length = M := by rw [List.length_append, List.length_replicate]; omega
  have l2 : (qs ++ List.replicate (M - qs.length) (0 : Rat)).length = M := by rw [List.length_append, List.length_replicate]; omega
  have := ev_zip_add _ _ (l1.trans l2.symm) x
  rw [l1, ev_pad, ev_pad] at this
  rw [← this]
  congr 1
  refine List.map_congr_left fun i _ => ?_
  rw [getD_pad, getD_pad]
/-- a row times a fraction -/
def spScale (K : PySem.W.Frag) : Sp := fun vs H Q _ => ∃ (x y : V) (ps : List Rat) (c : Rat) (b e : Nat), vs = [x, y] ∧ RwT K H x ps ∧ FrT K H y c ∧ Qs b ps ∧ Qz e c ∧ b ≤ 3900 ∧ e ≤ 3900 ∧ ps.length < 900 ∧
  ∀ v r H', Same H H' → RwT K H' v r → Tr r → (∀ z, ev r z = c * ev ps z) → Qs (b + e) r → r.length ≤ ps.length → Q v H'
theorem sc__law_scaled : FnScope ["row", "by", "each"] ["row", "by"] (defScope s__law_scaled) := ⟨rfl, rfl, rfl, by decide +kernel, rfl, by decide +kernel, by decide +kernel⟩
theorem d__law_scaled (W : FunIn K mg "_law_scaled" s__law_scaled) (D_law_trim : Df P w K mg base "_law_trim" 33 ["numbers"] (spTrimL K)) (D_law_times : Df P w K mg base "_law_times" 34 ["one", "two"] (spR2 K (fun p q => p * q))) : Df P w K mg base "_law_scaled" 35 ["row", "by"] (spScale K) := by
  obtain ⟨f, fd, F, hm⟩ := W
  refine ⟨f, fd, F.ok sc__law_scaled (fun vs H Q E h => ?_) (fun cdv A outer s H vs Q E hr h => ?_), hm, F.kp, F.binds fun _ _ _ _ _ _ us hl => match us, hl with | [_, _], _ => rfl⟩
  · obtain ⟨x, y, ps, c, b, e, rfl, _⟩ := h
    rfl
  · obtain ⟨x, y, ps, c, b, e, rfl, ⟨a1, us, rfl, ha, hA⟩, hy, zp, zc, hb1, he1, lp, q⟩ := h
    have nd := sc__law_scaled.nd
    have hL1 := hA.length
    refine ⟨_, (pss_one (ps_ret (pe_d D_law_trim (hr.mono (by decide)) rfl (pa_cons (pe_lc (own := [("each", 2)]) rfl nd (pi_tup (pv 0)) (blkOk_by (own := [("each", 2)]) (N := ["row", "by", "each"]) (sc := defScope s__law_scaled) (by decide +kernel)) (fun _ _ _ _ _ => (pg_name (i := 2) nd rfl (Or.inl rfl) (Or.inr rfl))) (fun _ _ _ _ _ => pts_nil) (fun _ _ _ _ _ => (pe_d D_law_times (hr.mono (by decide)) rfl (pa_cons (pv 2) (pa_cons (pv 1) pa_nil))))) pa_nil)))), ?_⟩
    refine ⟨V.ref a1, rfl, a1, rfl, ⟨us, ha⟩, fun D hD => lc_map (walk_tup (K := K) (a := a1) (xs := us)) hD (by rw [sizeLine_eq]; omega) (fun i H' v => FrT K H' v (c * ps.getD i 0)) (fun i H' H'' v e h => h.mono e) (fun H1 s1 => same_seqT s1 ha) ?_ ?_⟩
    · rintro i u H1 H2 hi s1 _ ⟨rfl, hu⟩ Fin hF
      obtain ⟨r, hr, hfr⟩ := hA.get hu
      have zr : Qz 3900 r := (zp r (List.mem_of_getElem? hr)).mono hb1
      refine ⟨rfl, u, rfl, y, rfl, u, y, r, c, rfl, hfr.mono (same_t s1), hy.mono (same_t s1), zr, zc.mono he1, fun v H3 s3 hv => ?_⟩
      refine hF _ _ s3 ?_
      rw [getD_some hr, show c * r = r * c by grind]
      exact hv
    · intro H1 acc s1 hacc hlen1 hel
      have hA3 : FrA K H1 acc (ps.map (c * ·)) := by
        refine Al.of (by rw [List.length_map]; omega) fun i v g h1 h2 => ?_
        have h3 := hel i v h1
        rw [List.getElem?_map] at h2
        obtain ⟨r, hr, rfl⟩ := Option.map_eq_some_iff.mp h2
        rw [getD_some hr] at h3
        exact h3
      refine ⟨D, acc, _, rfl, SqL.of hacc, hA3, by omega, fun v H' k s4 ht hz hv => ?_⟩
      refine q v _ H' (s1.trans s4) hv ht (fun z => ?_) (fun g hg => ?_) ?_
      · rw [ev_take_drop _ _ hz, ev_scale]
      · obtain ⟨r, hr, rfl⟩ := List.mem_map.mp (List.mem_of_mem_take hg)
        rw [Nat.add_comm]
        exact Qz.mul zc (zp r hr)
      · rw [List.length_take, List.length_map]
        omega
def spLess (K : PySem.W.Frag) : Sp := fun vs H Q _ => ∃ (x y : V) (ps qs : List Rat) (b : Nat), vs = [x, y] ∧ RwT K H x ps ∧ RwT K H y qs ∧ Qs b ps ∧ Qs b qs ∧ 0 < b ∧ b ≤ 3000 ∧ ps.length < 900 ∧ qs.length < 900 ∧
  ∀ v r H', Same H H' → RwT K H' v r → Tr r → (∀ z, ev r z = ev ps z - ev qs z) → Qs (b + b + 3) r → r.length ≤ max ps.length qs.length → Q v H'
theorem qz_m1 : Qz 1 (-1) := ⟨by decide, by decide⟩
theorem frt_m1 {K : PySem.W.Frag} {H : Hp} {p : Addr} (h : SqT K H p [.int (-1), .int 1]) : FrT K H (.ref p) (-1) := ⟨p, rfl, h⟩
end

end Vx
-- pyl
set_option Elab.async false
set_option linter.all false
set_option maxRecDepth 100000
set_option maxHeartbeats 4000000
namespace Vx
open PySem PySem.Spec PyProof.Rows L2
local macro_rules | `(tactic| walk_at "cl") => `(tactic| first | rfl | assumption | omega | exact sz_of 0 rfl (by decide) | exact sz_of 1 rfl (by decide) | exact sz_of 2 rfl (by decide) | exact sz_of 3 rfl (by decide) | exact cmulx (by assumption) (by assumption) (by decide) | exact Bz.mono (Bz.mul (by assumption) (by assumption)) (by decide) | decide)
local macro_rules | `(tactic| walk_at "ex") => `(tactic| ((show Exists _); first | apply @Exists.intro V | apply @Exists.intro Int | apply @Exists.intro Addr | apply @Exists.intro (List V) | apply @Exists.intro Nat | apply @Exists.intro Str | apply @Exists.intro Bool | apply @Exists.intro (Option V) | apply @Exists.intro String | apply @Exists.intro Rat | apply @Exists.intro (List Rat)))
local macro_rules | `(tactic| walk_at "rd") => `(tactic| ((repeat (first | (walk_at "ex") | (apply And.intro; (focus (walk_at "cl"))))); (try dsimp only [])))
local macro_rules | `(tactic| walk_at "r0") => `(tactic| (repeat (first | (walk_at "ex") | (apply And.intro; (focus (walk_at "cl"))))))

section
variable {P : Program} {w : World} {K : PySem.W.Frag} {mg : Str → Option Value} {base : Heap}
/-- the law's own product -/
def bProd (l b1 b2 : Nat) : Nat := l * (b1 + b2 + 1) + 1
def spProd (K : PySem.W.Frag) : Sp := fun vs H Q _ => ∃ (x y : V) (ps qs : List Rat) (b1 b2 : Nat), vs = [x, y] ∧ RwT K H x ps ∧ RwT K H y qs ∧ Qs b1 ps ∧ Qs b2 qs ∧ ps.length < 400 ∧ qs.length < 400 ∧ bProd ps.length b1 b2 + b1 + b2 ≤ 3900 ∧
  ∀ v r H', Same H H' → RwT K H' v r → Tr r → (∀ z, ev r z = ev ps z * ev qs z) → Qs (bProd ps.length b1 b2) r → r.length ≤ ps.length + qs.length → Q v H'
theorem sc__law_product : FnScope ["one", "two", "found", "j", "k"] ["one", "two"] (defScope s__law_product) := ⟨rfl, rfl, rfl, by decide +kernel, rfl, by decide +kernel, by decide +kernel⟩
theorem d__law_product (W : FunIn K mg "_law_product" s__law_product) (T : Blt mg) (D_law_trim : Df P w K mg base "_law_trim" 33 ["numbers"] (spTrimL K)) (D_law_plus : Df P w K mg base "_law_plus" 34 ["one", "two"] (spR2 K (fun p q => p + q))) (D_law_times : Df P w K mg base "_law_times" 34 ["one", "two"] (spR2 K (fun p q => p * q))) : Df P w K mg base "_law_product" 35 ["one", "two"] (spProd K) := by
  obtain ⟨f, fd, F, hm⟩ := W
  refine ⟨f, fd, F.ok sc__law_product (fun vs H Q E h => ?_) (fun cdv A outer s H vs Q E hr h => ?_), hm, F.kp, F.binds fun _ _ _ _ _ _ us hl => match us, hl with | [_, _], _ => rfl⟩
  · obtain ⟨x, y, ps, qs, b1, b2, rfl, _⟩ := h
    rfl
  · obtain ⟨x, y, ps, qs, b1, b2, rfl, ⟨a1, us, rfl, ha, hA⟩, ⟨a2, vs, rfl, hb, hB⟩, zp, zq, lp, lq, hbd, q⟩ := h
    have nd := sc__law_product.nd
    unfold bProd at hbd
    have hL1 := hA.length
    have hL2 := hB.length
    refine ⟨_, (pss_cons (ps_set (i := 2) nd rfl (Or.inl rfl) (pe_op op_rep (pe_lst (pa_cons (pe_tup (pa_cons pe_int (pa_cons pe_int pa_nil))) pa_nil)) (pe_op op_add (pe_callB call_len_seq (by rfl) T.n_len (by decide +kernel) (pa_cons (pv 0) pa_nil)) (pe_callB call_len_seq (by rfl) T.n_len (by decide +kernel) (pa_cons (pv 1) pa_nil)))))
        (pss_cons (ps_for PassesOwn.never rfl (pi_range1 rfl T.n_range (pa_cons (pe_callB call_len_seq (by rfl) T.n_len (by decide +kernel) (pa_cons (pv 0) pa_nil)) pa_nil)) (pg_name (i := 3) nd rfl (Or.inl rfl) (Or.inr rfl)) (pss_one (ps_for PassesOwn.never rfl (pi_range1 rfl T.n_range (pa_cons (pe_callB call_len_seq (by rfl) T.n_len (by decide +kernel) (pa_cons (pv 1) pa_nil)) pa_nil)) (pg_name (i := 4) nd rfl (Or.inl rfl) (Or.inr rfl)) (pss_one (ps_asg (pe_d D_law_plus (hr.mono (by decide)) rfl (pa_cons (pe_ix ix_list (pv 2) (pe_op op_add (pv 3) (pv 4)) (fun _ _ => rfl)) (pa_cons (pe_d D_law_times (hr.mono (by decide)) rfl (pa_cons (pe_ix ix_tup (pv 0) (pv 3) (fun _ _ => rfl)) (pa_cons (pe_ix ix_tup (pv 1) (pv 4) (fun _ _ => rfl)) pa_nil))) pa_nil))) (pg_sub (pv 2) (pe_op op_add (pv 3) (pv 4)) set_list))))))
        (pss_one (ps_ret (pe_d D_law_trim (hr.mono (by decide)) rfl (pa_cons (pv 2) pa_nil)))))), ?_⟩
    walk_at "r0"
    intro p0 hp0
    have s0 := same_new (o := .tup [V.int 0, V.int 1]) hp0
    have e0 : SqT K (upd H p0 (.tup [V.int 0, V.int 1])) p0 [V.int 0, V.int 1] := SqT.of upd_same
    generalize upd H p0 (.tup [V.int 0, V.int 1]) = H0 at s0 e0
    have f0 : FrT K H0 (.ref p0) 0 := ⟨p0, rfl, e0⟩
    walk_at "r0"
    intro p1 hp1
    have s1 := same_new (o := .lst [V.ref p0]) hp1
    have e1 : upd H0 p1 (.lst [V.ref p0]) p1 = some (.lst [V.ref p0]) := upd_same
    generalize upd H0 p1 (.lst [V.ref p0]) = H1 at s1 e1
    have s01 := s0.trans s1
    have ha1 : SqL K H1 a1 us ∨ SqT K H1 a1 us := Or.inr (same_seqT s01 ha)
    have hb1 : SqL K H1 a2 vs ∨ SqT K H1 a2 vs := Or.inr (same_seqT s01 hb)
    have hlr : (us.length : Int) + (vs.length : Int) = ((ps.length + qs.length : Nat) : Int) := by omega
    have hsz : [V.ref p0].length * ((us.length : Int) + (vs.length : Int)).toNat ≤ sizeLine := by
      show 1 * _ ≤ _
      rw [hlr, Int.toNat_natCast, sizeLine_eq]
      omega
    walk_at "r0"
    rw [hlr]
    intro p hp
    have ef : (List.replicate ((ps.length + qs.length : Nat) : Int).toNat [V.ref p0]).flatten = List.replicate (ps.length + qs.length) (V.ref p0) := by
      rw [Int.toNat_natCast]
      generalize ps.length + qs.length = k
      induction k with
      | zero => rfl
      | succ k ih => rw [List.replicate_succ, List.flatten_cons, ih, List.replicate_succ]; rfl
    rw [ef]
    have hpH : H p = none := s01.free hp
    have s2 : Same H (upd H1 p (.lst (List.replicate (ps.length + qs.length) (V.ref p0)))) := s01.trans (same_new hp)
    have e2 : upd H1 p (.lst (List.replicate (ps.length + qs.length) (V.ref p0))) p = some (.lst (List.replicate (ps.length + qs.length) (V.ref p0))) := upd_same
    have f2 : FrT K (upd H1 p (.lst (List.replicate (ps.length + qs.length) (V.ref p0)))) (.ref p0) 0 := f0.mono (same_t (s1.trans (same_new hp)))
    generalize upd H1 p (.lst (List.replicate (ps.length + qs.length) (V.ref p0))) = H2 at s2 e2 f2
    have g2 : FrA K H2 (List.replicate (ps.length + qs.length) (V.ref p0)) (List.replicate (ps.length + qs.length) 0) := by
      generalize ps.length + qs.length = k
      induction k with
      | zero => exact .nil
      | succ k ih => exact .cons f2 ih
    have ha2 : SqL K H2 a1 us ∨ SqT K H2 a1 us := Or.inr (same_seqT s2 ha)
    refine ⟨V.ref a1, rfl, a1, us, rfl, ha2, (us.length : Int), rfl, by omega, by omega, for_range (n := us.length) (fun i σ H' => ∃ (acc : List V) (rs : List Rat) (o3 o4 : Option V), σ = [some (.ref a1), some (.ref a2), some (.ref p), o3, o4] ∧ Same H H' ∧ H' p = some (.lst acc) ∧ FrA K H' acc rs ∧ rs.length = ps.length + qs.length ∧ (∀ x, ev rs x = ev (ps.take i) x * ev qs x) ∧ Qs (i * (b1 + b2 + 1) + 1) rs)
      ⟨_, _, none, none, rfl, s2, e2, g2, List.length_replicate, fun x => ?_, fun r hr => ?_⟩ ?_ ?_⟩
    · rw [ev_replicate0, List.take_zero]
      show (0 : Rat) = 0 * _
      grind
    · rw [(List.mem_replicate.mp hr).2]
      exact qz0 (by omega)
    · rintro i σ H3 hi ⟨acc, rs, o3, o4, rfl, s3, e3, g3, lr, hev, hq⟩
      have hi' : i < ps.length := by omega
      have le1 : i * (b1 + b2 + 1) + (b1 + b2 + 1) ≤ ps.length * (b1 + b2 + 1) := by
        have := Nat.mul_le_mul_right (b1 + b2 + 1) (show i + 1 ≤ ps.length by omega)
        rw [Nat.add_mul, Nat.one_mul] at this
        exact this
      obtain ⟨r1, hr1, hfr1⟩ := hA.get (List.getElem?_eq_getElem hi)
      have hat1 : atI us (0 + (i : Int)) = some us[i] := at_of (j := i) (by omega) (List.getElem?_eq_getElem hi)
      have z1 : Qz b1 r1 := zp r1 (List.mem_of_getElem? hr1)
      have hb3 : SqL K H3 a2 vs ∨ SqT K H3 a2 vs := Or.inr (same_seqT s3 hb)
      refine ⟨V.ref a2, rfl, a2, vs, rfl, hb3, (vs.length : Int), rfl, by omega, by omega, for_range (n := vs.length) (fun j σ H' => ∃ (acc : List V) (rs : List Rat) (o4 : Option V), σ = [some (.ref a1), some (.ref a2), some (.ref p), some (.int (0 + (i : Int))), o4] ∧ Same H H' ∧ H' p = some (.lst acc) ∧ FrA K H' acc rs ∧ rs.length = ps.length + qs.length ∧ (∀ x, ev rs x = ev (ps.take i) x * ev qs x + r1 * x ^ i * ev (qs.take j) x) ∧ ∀ k r, rs[k]? = some r → Qz ((if k < i + j then i + 1 else i) * (b1 + b2 + 1) + 1) r)
        ⟨acc, rs, o4, rfl, s3, e3, g3, lr, fun x => ?_, fun k r hr => ?_⟩ ?_ ?_⟩
      · rw [hev, List.take_zero]
        show _ = _ + _ * 0
        grind
      · refine (hq r (List.mem_of_getElem? hr)).mono (Nat.add_le_add_right (Nat.mul_le_mul_right _ ?_) 1)
        split <;> omega
      · rintro j σ H4 hj ⟨acc, rs, o4, rfl, s4, e4, g4, lr, hev, hq⟩
        obtain ⟨r2, hr2, hfr2⟩ := hB.get (List.getElem?_eq_getElem hj)
        have hat2 : atI vs (0 + (j : Int)) = some vs[j] := at_of (j := j) (by omega) (List.getElem?_eq_getElem hj)
        have z2 : Qz b2 r2 := zq r2 (List.mem_of_getElem? hr2)
        have lA := g4.length
        have hk : i + j < rs.length := by omega
        have hk2 : i + j < acc.length := by omega
        obtain ⟨r3, hr3, hfr3⟩ := g4.get (List.getElem?_eq_getElem hk2)
        have hr3' : rs[i + j] = r3 := by
          rw [List.getElem?_eq_getElem hk] at hr3
          exact Option.some.inj hr3
        have eij : (0 + (i : Int)) + (0 + (j : Int)) = ((i + j : Nat) : Int) := by omega
        have hat3 : atI acc ((0 + (i : Int)) + (0 + (j : Int))) = some acc[i + j] := at_of (j := i + j) (by omega) (List.getElem?_eq_getElem hk2)
        have z3 := hq (i + j) r3 hr3
        rw [if_neg (by omega)] at z3
        have z1' : Qz 3900 r1 := z1.mono (by omega)
        have z2' : Qz 3900 r2 := z2.mono (by omega)
        have z3' : Qz 3900 r3 := z3.mono (by omega)
        have z12 : Qz 3900 (r1 * r2) := (Qz.mul z1 z2).mono (by omega)
        have q4 : SqL K H4 p acc := SqL.of e4
        have t1 := same_seqT s4 ha
        have t2 := same_seqT s4 hb
        have fr1 := hfr1.mono (same_t s4)
        have fr2 := hfr2.mono (same_t s4)
        refine ⟨_, rfl, V.int (0 + (i : Int)), rfl, V.int (0 + (j : Int)), rfl, _, _, rfl, rfl, p, acc, _, _, rfl, rfl, q4, hat3, ?_⟩
        refine ⟨_, rfl, V.int (0 + (i : Int)), rfl, a1, us, _, _, rfl, rfl, t1, hat1, _, rfl, V.int (0 + (j : Int)), rfl, a2, vs, _, _, rfl, rfl, t2, hat2, _, _, _, _, rfl, fr1, fr2, z1', z2', fun v5 H5 s5 hv5 => ?_⟩
        refine ⟨_, _, _, _, rfl, hfr3.mono (same_t s5), hv5, z3', z12, fun v6 H6 s6 hv6 => ?_⟩
        have s56 := s5.trans s6
        have e6 := s56 _ _ e4
        refine ⟨V.ref p, rfl, V.int (0 + (i : Int)), rfl, V.int (0 + (j : Int)), rfl, _, _, rfl, rfl, p, acc, _, i + j, rfl, rfl, e6, by rw [eij]; exact ixN_nat hk2, ?_⟩
        have g6 : FrA K (upd H6 p (.lst (acc.set (i + j) v6))) (acc.set (i + j) v6) (rs.set (i + j) (rs[i + j] + r1 * r2)) := by
          refine Al.set (fra_mono ((same_t s56).trans (samet_lst e6)) g4) _ ?_
          rw [hr3']
          exact hv6.mono (samet_lst e6)
        refine ⟨_, _, _, rfl, fun c o e => ?_, upd_same, g6, by rw [List.length_set]; exact lr, fun x => ?_, fun k r hr' => ?_⟩
        · rw [upd_ne (ne_of_none e hpH)]
          exact s56 _ _ (s4 _ _ e)
        · rw [ev_set hk, hev, rw_take_succ hr2, rpow_add]
          grind
        · rw [List.getElem?_set] at hr'
          split at hr'
          · rename_i hkk
            subst hkk
            cases hr'
            rw [if_pos (by omega), hr3']
            refine (Qz.add z3 (Qz.mul z1 z2)).mono ?_
            rw [Nat.add_mul, Nat.one_mul]
            omega
          · refine (hq k r hr').mono (Nat.add_le_add_right (Nat.mul_le_mul_right _ ?_) 1)
            split <;> split <;> omega
      · rintro σ H4 ⟨acc, rs, o4, rfl, s4, e4, g4, lr, hev, hq⟩
        refine ⟨acc, rs, _, _, rfl, s4, e4, g4, lr, fun x => ?_, fun r hr => ?_⟩
        · rw [hev, rw_take_succ hr1, hL2, List.take_length]
          grind
        · obtain ⟨k, hk⟩ := List.mem_iff_getElem?.mp hr
          refine (hq k r hk).mono (Nat.add_le_add_right (Nat.mul_le_mul_right _ ?_) 1)
          split <;> omega
    · rintro σ H3 ⟨acc, rs, o3, o4, rfl, s3, e3, g3, lr, hev, hq⟩
      rw [hL1, List.take_length] at hev
      rw [hL1] at hq
      have lA := g3.length
      refine ⟨V.ref p, rfl, p, acc, rs, rfl, SqL.of e3, g3, by omega, fun v H' k s4 ht hz hv => ?_⟩
      refine q v _ H' (s3.trans s4) hv ht (fun z => ?_) (hq.take k) ?_
      · rw [ev_take_drop _ _ hz, hev]
      · rw [List.length_take]
        omega
end
section
variable {P : Program} {w : World} {K : PySem.W.Frag} {mg : Str → Option Value} {base : Heap}
/-- a drawn row -/
def spDrawn (K : PySem.W.Frag) : Sp := fun vs H Q _ => ∃ (a : Addr) (m : Nat), vs = [.ref a, .int (m : Int)] ∧ RlAt a H ∧ m < 100 ∧ ∀ v r H', RlAt a H' → But a H H' → RwT K H' v r → Tr r → Qsd r → r.length ≤ m → Q v H'
theorem tr_snoc {qs : List Rat} {q : Rat} (h : q ≠ 0) : Tr (qs ++ [q]) := fun hn => by
  rw [List.getLast_append_right (List.cons_ne_nil _ _)]
  exact h
theorem sc__law_drawn : FnScope ["reel", "most", "many", "found", "k"] ["reel", "most"] (defScope s__law_drawn) := ⟨rfl, rfl, rfl, by decide +kernel, rfl, by decide +kernel, by decide +kernel⟩
theorem d__law_drawn (W : FunIn K mg "_law_drawn" s__law_drawn) (T : Blt mg) (D_law_pull : Df P w K mg base "_law_pull" 1 ["reel", "many"] spPull) (D_law_part : Df P w K mg base "_law_part" 34 ["reel"] (spPart K)) (D_law_some : Df P w K mg base "_law_some" 35 ["reel"] (spSome K)) : Df P w K mg base "_law_drawn" 36 ["reel", "most"] (spDrawn K) := by
  obtain ⟨f, fd, F, hm⟩ := W
  refine ⟨f, fd, F.ok sc__law_drawn (fun vs H Q E h => ?_) (fun cdv A outer s H vs Q E hr h => ?_), hm, F.kp, F.binds fun _ _ _ _ _ _ us hl => match us, hl with | [_, _], _ => rfl⟩
  · obtain ⟨a, m, rfl, _⟩ := h
    rfl
  · obtain ⟨a, m, rfl, hR, hm, q⟩ := h
    have nd := sc__law_drawn.nd
    refine ⟨_, (pss_cons (ps_par (i := 2) (j := 3) (by rfl) nd rfl rfl (by decide) rfl rfl (pa_cons (pe_d D_law_pull (hr.mono (by decide)) rfl (pa_cons (pv 0) (pa_cons (pe_op op_add (pv 1) pe_int) pa_nil))) (pa_cons (pe_lst pa_nil) pa_nil)) (by rfl))
        (pss_cons (ps_for PassesOwn.never rfl (pi_range1 rfl T.n_range (pa_cons (pv 2) pa_nil)) (pg_name (i := 4) nd rfl (Or.inl rfl) (Or.inr rfl)) (pss_one (ps_expr (pe_bm PySem.F.plainAttrs_list PySem.F.slot_list_append PySem.F.type_list_append mt_append (pv 3) (pa_cons (pe_ifExp (pt_cmpR op_lt (pv 4) (pe_op op_sub (pv 2) pe_int) (nomark _)) (pe_d D_law_part (hr.mono (by decide)) rfl (pa_cons (pv 0) pa_nil)) (pe_d D_law_some (hr.mono (by decide)) rfl (pa_cons (pv 0) pa_nil))) pa_nil)))))
        (pss_one (ps_ret (pe_callTy call_tuple_of (by rfl) T.n_tuple (by decide +kernel) (pa_cons (pv 3) pa_nil)))))), ?_⟩
    refine ⟨V.ref a, rfl, V.int (m : Int), rfl, _, _, rfl, rfl, a, _, rfl, hR, by omega, by omega, fun n H1 n0 n1 hR1 hB1 => ?_⟩
    refine ⟨by show 0 ≤ sizeLine; exact Nat.zero_le _, fun p hp => ?_⟩
    have pa : a ≠ p := by
      obtain ⟨_, _, _, e⟩ := hR1
      exact ne_of_none e hp
    have hpH : H p = none := by
      cases e : H p with
      | none => rfl
      | some o => rw [hB1 p o e (Ne.symm pa)] at hp; cases hp
    have hR2 : RlAt a (upd H1 p (.lst [])) := same_rl hR1 (same_new hp)
    have hB2 : But a H (upd H1 p (.lst [])) := but_trans hB1 (same_but a (same_new hp))
    have e2 : upd H1 p (.lst []) p = some (.lst []) := upd_same
    generalize upd H1 p (.lst []) = H2 at hR2 hB2 e2
    refine ⟨_, _, rfl, V.int n, rfl, n, rfl, by omega, by omega, for_range (n := n.toNat) (fun i σ H' => ∃ (acc : List V) (qs : List Rat) (o : Option V), σ = [some (.ref a), some (.int (m : Int)), some (.int n), some (.ref p), o] ∧ RlAt a H' ∧ But a H H' ∧ H' p = some (.lst acc) ∧ FrA K H' acc qs ∧ qs.length = i ∧ Qsd qs ∧ (i = n.toNat → Tr qs))
      ⟨[], [], none, rfl, hR2, hB2, e2, .nil, rfl, fun c hc => (by cases hc), fun _ => tr_nil⟩ ?_ ?_⟩
    · rintro i σ H3 hi ⟨acc, qs, o, rfl, hR3, hB3, e3, g3, lq, zq, ht⟩
      have lA := g3.length
      have fin : ∀ v r H4, RlAt a H4 → But a H3 H4 → FrT K H4 v r → Qd r → (i + 1 = n.toNat → r ≠ 0) → ∃ l xs y, V.ref p = V.ref l ∧ [v] = [y] ∧ H4 l = some (.lst xs) ∧ xs.length < sizeLine ∧ (∃ (acc : List V) (qs : List Rat) (o : Option V), [some (.ref a), some (.int (m : Int)), some (.int n), some (.ref p), some (V.int (0 + (i : Int)))] = [some (.ref a), some (.int (m : Int)), some (.int n), some (.ref p), o] ∧ RlAt a (upd H4 l (.lst (xs ++ [y]))) ∧ But a H (upd H4 l (.lst (xs ++ [y]))) ∧ (upd H4 l (.lst (xs ++ [y]))) p = some (.lst acc) ∧ FrA K (upd H4 l (.lst (xs ++ [y]))) acc qs ∧ qs.length = i + 1 ∧ Qsd qs ∧ (i + 1 = n.toNat → Tr qs)) := by
        intro v r H4 hR4 hB4 hv hz hne
        have e4 : H4 p = some (.lst acc) := hB4 _ _ e3 (Ne.symm pa)
        have st := but_samet hR3 hB4
        refine ⟨p, acc, v, rfl, rfl, e4, by rw [sizeLine_eq]; omega, acc ++ [v], qs ++ [r], _, rfl, ?_, fun c o e nc => ?_, upd_same, ?_, by rw [List.length_append, lq]; rfl, ?_, fun hn => tr_snoc (hne hn)⟩
        · obtain ⟨x, y, z, e⟩ := hR4
          exact ⟨x, y, z, by rw [upd_ne pa]; exact e⟩
        · rw [upd_ne (ne_of_none e hpH)]
          exact hB4 _ _ (hB3 _ _ e nc) nc
        · exact (fra_mono (st.trans (samet_lst e4)) g3).append (.cons (hv.mono (samet_lst e4)) .nil)
        · intro c hc
          rcases List.mem_append.mp hc with z | z
          · exact zq c z
          · rw [List.mem_singleton.mp z]
            exact hz
      walk_at "r0"
      refine ⟨Or.inl ⟨rfl, _, SqL.of e3⟩, ?_⟩
      walk_at "r0"
      refine tif (fun hk => ?_) (fun hk => ?_)
      · exact ⟨V.ref a, rfl, a, rfl, hR3, fun v r H4 hR4 hB4 hv hz => fin v r H4 hR4 hB4 hv hz (fun hn => by omega)⟩
      · exact ⟨V.ref a, rfl, a, rfl, hR3, fun v r H4 hR4 hB4 hv hz hne => fin v r H4 hR4 hB4 hv hz (fun _ => hne)⟩
    · rintro σ H3 ⟨acc, qs, o, rfl, hR3, hB3, e3, g3, lq, zq, ht⟩
      refine ⟨V.ref p, rfl, p, acc, rfl, Or.inl ⟨SqL.of e3, fun t htf => ?_⟩⟩
      have s4 := same_new (o := .tup acc) htf
      exact q _ qs _ (same_rl hR3 s4) (but_trans hB3 (same_but a s4)) ⟨t, acc, rfl, SqT.of upd_same, fra_mono (same_t s4) g3⟩ (ht rfl) zq (by omega)
/-- the law's own worth -/
def bOwn (l b c : Nat) : Nat := l * (b + l * c + 3) + 1
def spOwn (K : PySem.W.Frag) : Sp := fun vs H Q _ => ∃ (x y : V) (qs : List Rat) (z : Rat) (b c : Nat), vs = [x, y] ∧ RwT K H x qs ∧ FrT K H y z ∧ Qs b qs ∧ Qz c z ∧ qs.length < 400 ∧ bOwn qs.length b c + b + qs.length * c + c + 1 ≤ 3900 ∧
  ∀ v H', Same H H' → FrT K H' v (ev qs z) → Qz (bOwn qs.length b c) (ev qs z) → Q v H'
end

end Vx
-- pyl
set_option Elab.async false
set_option linter.all false
set_option maxRecDepth 100000
set_option maxHeartbeats 4000000
namespace Vx
open PySem PySem.Spec PyProof.Rows L2
local macro_rules | `(tactic| walk_at "cl") => `(tactic| first | rfl | assumption | omega | exact sz_of 0 rfl (by decide) | exact sz_of 1 rfl (by decide) | exact sz_of 2 rfl (by decide) | exact sz_of 3 rfl (by decide) | exact cmulx (by assumption) (by assumption) (by decide) | exact Bz.mono (Bz.mul (by assumption) (by assumption)) (by decide) | decide)
local macro_rules | `(tactic| walk_at "ex") => `(tactic| ((show Exists _); first | apply @Exists.intro V | apply @Exists.intro Int | apply @Exists.intro Addr | apply @Exists.intro (List V) | apply @Exists.intro Nat | apply @Exists.intro Str | apply @Exists.intro Bool | apply @Exists.intro (Option V) | apply @Exists.intro String | apply @Exists.intro Rat | apply @Exists.intro (List Rat)))
local macro_rules | `(tactic| walk_at "rd") => `(tactic| ((repeat (first | (walk_at "ex") | (apply And.intro; (focus (walk_at "cl"))))); (try dsimp only [])))
local macro_rules | `(tactic| walk_at "r0") => `(tactic| (repeat (first | (walk_at "ex") | (apply And.intro; (focus (walk_at "cl"))))))

section
variable {P : Program} {w : World} {K : PySem.W.Frag} {mg : Str → Option Value} {base : Heap}
/-- three rows -/
def spThree (K : PySem.W.Frag) : Sp := fun vs H Q _ => ∃ (a : Addr), vs = [.ref a] ∧ RlAt a H ∧ ∀ t v1 v2 v3 r1 r2 r3 H', RlAt a H' → But a H H' → SqT K H' t [v1, v2, v3] → RwT K H' v1 r1 → RwT K H' v2 r2 → RwT K H' v3 r3 →
  Tr r1 → Tr r2 → Tr r3 → Qs 4 r1 → Qs 10 r2 → Qs 4 r3 → r1.length ≤ 5 → r2.length ≤ 5 → r3.length ≤ 4 → Q (.ref t) H'
end
theorem bTimes_le {l1 b1 l2 b2 n1 n2 B : Nat} (h1 : l1 ≤ n1) (h2 : l2 ≤ n2) (h : bTimes n1 b1 n2 b2 ≤ B) : bTimes l1 b1 l2 b2 ≤ B := by
  refine Nat.le_trans ?_ h
  unfold bTimes
  have a := fold_le (a := b1) (show l1 + 1 ≤ n1 + 1 by omega)
  have b := fold_le (a := b2) (show l2 + 1 ≤ n2 + 1 by omega)
  omega
theorem bWorth_le {l b c n B : Nat} (h1 : l ≤ n) (h : bWorth n b c ≤ B) : bWorth l b c ≤ B := by
  refine Nat.le_trans ?_ h
  unfold bWorth
  have a := fold_le (a := b + c + 1) h1
  omega
theorem bWorth_le2 {l b c n B : Nat} (h1 : l ≤ n) (h : bWorth n b c + b + c ≤ B) : bWorth l b c + b + c ≤ B := by
  have := bWorth_le (b := b) (c := c) h1 (Nat.le_refl _)
  omega
theorem bProd_le {l b1 b2 n B : Nat} (h1 : l ≤ n) (h : bProd n b1 b2 ≤ B) : bProd l b1 b2 ≤ B := by
  refine Nat.le_trans ?_ h
  unfold bProd
  have a := fold_le (a := b1 + b2 + 1) h1
  omega
theorem bProd_le2 {l b1 b2 n B : Nat} (h1 : l ≤ n) (h : bProd n b1 b2 + b1 + b2 ≤ B) : bProd l b1 b2 + b1 + b2 ≤ B := by
  have := bProd_le (b1 := b1) (b2 := b2) h1 (Nat.le_refl _)
  omega
theorem bOwn_le {l b c n B : Nat} (h1 : l ≤ n) (h : bOwn n b c ≤ B) : bOwn l b c ≤ B := by
  refine Nat.le_trans ?_ h
  unfold bOwn
  have a : l * c ≤ n * c := fold_le h1
  have b' : l * (b + l * c + 3) ≤ n * (b + n * c + 3) := Nat.mul_le_mul h1 (by omega)
  omega
theorem bOwn_le2 {l b c n B : Nat} (h1 : l ≤ n) (h : bOwn n b c + b + n * c + c + 1 ≤ B) : bOwn l b c + b + l * c + c + 1 ≤ B := by
  have := bOwn_le (b := b) (c := c) h1 (Nat.le_refl _)
  have a : l * c ≤ n * c := fold_le h1
  omega

end Vx
-- pyl
set_option Elab.async false
set_option linter.all false
set_option maxRecDepth 100000
set_option maxHeartbeats 4000000
namespace Vx
open PySem PySem.Spec PyProof.Rows L2
local macro_rules | `(tactic| walk_at "cl") => `(tactic| first | rfl | assumption | omega | exact sz_of 0 rfl (by decide) | exact sz_of 1 rfl (by decide) | exact sz_of 2 rfl (by decide) | exact sz_of 3 rfl (by decide) | exact cmulx (by assumption) (by assumption) (by decide) | exact Bz.mono (Bz.mul (by assumption) (by assumption)) (by decide) | decide)
local macro_rules | `(tactic| walk_at "ex") => `(tactic| ((show Exists _); first | apply @Exists.intro V | apply @Exists.intro Int | apply @Exists.intro Addr | apply @Exists.intro (List V) | apply @Exists.intro Nat | apply @Exists.intro Str | apply @Exists.intro Bool | apply @Exists.intro (Option V) | apply @Exists.intro String | apply @Exists.intro Rat | apply @Exists.intro (List Rat)))
local macro_rules | `(tactic| walk_at "rd") => `(tactic| ((repeat (first | (walk_at "ex") | (apply And.intro; (focus (walk_at "cl"))))); (try dsimp only [])))
local macro_rules | `(tactic| walk_at "r0") => `(tactic| (repeat (first | (walk_at "ex") | (apply And.intro; (focus (walk_at "cl"))))))

section
variable {P : Program} {w : World} {K : PySem.W.Frag} {mg : Str → Option Value} {base : Heap}
/-- _law_lowest, the second number below 0 or above -/
def spLowN (K : PySem.W.Frag) : Sp := fun vs H Q _ => ∃ n m : Int, vs = [.int n, .int m] ∧ m ≠ 0 ∧ Bz 8000 m ∧ ∀ v H', Same H H' → FrT K H' v (Rat.divInt n m) → Q v H'
theorem d__law_lowestN (W : FunIn K mg "_law_lowest" s__law_lowest) (T : Blt mg) : Df P w K mg base "_law_lowest" 33 ["n", "m"] (spLowN K) := by
  obtain ⟨f, fd, F, hm⟩ := W
  refine ⟨f, fd, F.ok sc__law_lowest (fun vs H Q E h => ?_) (fun cdv A outer s H vs Q E hr h => ?_), hm, F.kp, F.binds fun _ _ _ _ _ _ us hl => match us, hl with | [_, _], _ => rfl⟩
  · obtain ⟨n, m, rfl, _⟩ := h
    rfl
  · obtain ⟨n, m, rfl, hm0, hmz, q⟩ := h
    have nd := sc__law_lowest.nd
    have hg : ((n.natAbs.gcd m.natAbs : Nat) : Int) ≠ 0 := by
      have := Nat.gcd_pos_of_pos_right n.natAbs (show 0 < m.natAbs by omega)
      omega
    have hgz : Bz 8000 ((n.natAbs.gcd m.natAbs : Nat) : Int) := by
      unfold Bz
      rw [Int.natAbs_natCast]
      exact Nat.lt_of_le_of_lt (Nat.gcd_le_right _ (by omega)) hmz
    have fin : ∀ p, H p = none → Q (.ref p) (upd H p (.tup [.int (Rat.divInt n m).num, .int (Rat.divInt n m).den])) := fun p hp => q _ _ (same_new hp) ⟨p, rfl, SqT.of upd_same⟩
    have c1 : ∀ i : Int, CDivX i ((n.natAbs.gcd m.natAbs : Nat) : Int) := fun i => cdivx hg hgz (by decide)
    have c2 := c1 n
    have c3 := c1 m
    have ea : (if n < 0 then -n else n) = (n.natAbs : Int) := by split <;> omega
    have em : (if m < 0 then -m else m) = (m.natAbs : Int) := by split <;> omega
    refine ⟨_, (pss_cons (ps_par (i := 2) (j := 3) (by rfl) nd rfl rfl (by decide) rfl rfl (pa_cons (pe_callB call_abs (by rfl) T.n_abs (by decide +kernel) (pa_cons (pv 0) pa_nil)) (pa_cons (pe_callB call_abs (by rfl) T.n_abs (by decide +kernel) (pa_cons (pv 1) pa_nil)) pa_nil)) (by rfl))
        (pss_cons (ps_while PassesOwn.never (pt_cmpR op_ne (pv 3) pe_int (nomark _)) (pss_one (ps_par (i := 2) (j := 3) (by rfl) nd rfl rfl (by decide) rfl rfl (pa_cons (pv 3) (pa_cons (pe_op op_mod (pe_callTy call_int1 (by rfl) T.n_int (by decide +kernel) (pa_cons (pv 2) pa_nil)) (pv 3)) pa_nil)) (by rfl))))
        (pss_one (ps_ret (pe_ifExp (pt_cmpR op_gt (pv 1) pe_int (nomark _)) (pe_tup (pa_cons (pe_op op_fdivX (pv 0) (pv 2)) (pa_cons (pe_op op_fdivX (pv 1) (pv 2)) pa_nil))) (pe_tup (pa_cons (pe_op op_sub pe_int (pe_op op_fdivX (pv 0) (pv 2))) (pa_cons (pe_op op_sub pe_int (pe_op op_fdivX (pv 1) (pv 2))) pa_nil)))))))), ?_⟩
    walk_at "rd"
    refine ⟨fun k σ H' => ∃ a b : Nat, σ = [some (.int n), some (.int m), some (.int (a : Int)), some (.int (b : Int))] ∧ H' = H ∧ k = b ∧ a.gcd b = n.natAbs.gcd m.natAbs, ⟨m.natAbs, n.natAbs, m.natAbs, by rw [ea, em]; rfl, rfl, rfl, rfl⟩, ?_⟩
    rintro b σ H' ⟨a, b', rfl, rfl, rfl, hab⟩
    walk_at "rd"
    refine tifn (fun hb => ?_) (fun hb => ?_)
    · have hb1 : b ≠ 0 := fun z => hb (by rw [z]; rfl)
      have hb0 : 0 < (b : Int) := by omega
      refine ⟨fun σ' H'' => σ' = [some (.int n), some (.int m), some (.int (b : Int)), some (.int ((a % b : Nat) : Int))] ∧ H'' = H', ?_, ?_⟩
      · rintro σ' H'' ⟨rfl, rfl⟩
        refine ⟨a % b, Nat.mod_lt _ (by omega), b, a % b, rfl, rfl, rfl, ?_⟩
        rw [← hab, Nat.gcd_comm a b, Nat.gcd_rec b a, Nat.gcd_comm]
      · refine ⟨V.int (b : Int), rfl, V.int (a : Int), rfl, Or.inl ⟨_, rfl, V.int (b : Int), rfl, _, _, rfl, rfl, hb0, _, _, rfl, ?_⟩⟩
        rw [Int.natCast_emod]
        exact ⟨rfl, rfl⟩
    · have hb0 : b = 0 := by
        have := V.int.inj hb
        omega
      subst hb0
      rw [Nat.gcd_zero_right] at hab
      subst hab
      walk_at "rd"
      refine tif (fun hgt => ?_) (fun hle => ?_)
      · obtain ⟨e1, e2⟩ := fr_pos_f (n := n) (show 0 < m from hgt)
        walk_at "rd"
        rw [e1, e2]
        exact fin
      · obtain ⟨e1, e2⟩ := fr_neg2 (n := n) (show m < 0 by omega)
        walk_at "rd"
        rw [e1, e2]
        exact fin
theorem sc__law_minus : FnScope ["one", "two"] ["one", "two"] (defScope s__law_minus) := ⟨rfl, rfl, rfl, by decide +kernel, rfl, by decide +kernel, by decide +kernel⟩
theorem d__law_minus (W : FunIn K mg "_law_minus" s__law_minus) (D_law_lowest : Df P w K mg base "_law_lowest" 33 ["n", "m"] (spLow K)) : Df P w K mg base "_law_minus" 34 ["one", "two"] (spR2 K (fun p q => p - q)) := by
  obtain ⟨f, fd, F, hm⟩ := W
  refine ⟨f, fd, F.ok sc__law_minus (fun vs H Q E h => ?_) (fun cdv A outer s H vs Q E hr h => ?_), hm, F.kp, F.binds fun _ _ _ _ _ _ us hl => match us, hl with | [_, _], _ => rfl⟩
  · obtain ⟨x, y, p, q, rfl, _⟩ := h
    rfl
  · obtain ⟨x, y, p, r, rfl, ⟨a, rfl, ha⟩, ⟨b, rfl, hb⟩, zp, zr, q⟩ := h
    have b1 := zp.n
    have b2 := zp.dd
    have b3 := zr.n
    have b4 := zr.dd
    have hd : 0 < (p.den : Int) * (r.den : Int) := Int.mul_pos (by have := p.den_nz; omega) (by have := r.den_nz; omega)
    refine ⟨_, (pss_one (ps_ret (pe_d D_law_lowest (hr.mono (by decide)) rfl (pa_cons (pe_op op_sub (pe_op op_mulX (pe_ix ix_tup (pv 0) pe_int (fun _ _ => rfl)) (pe_ix ix_tup (pv 1) pe_int (fun _ _ => rfl))) (pe_op op_mulX (pe_ix ix_tup (pv 1) pe_int (fun _ _ => rfl)) (pe_ix ix_tup (pv 0) pe_int (fun _ _ => rfl)))) (pa_cons (pe_op op_mulX (pe_ix ix_tup (pv 0) pe_int (fun _ _ => rfl)) (pe_ix ix_tup (pv 1) pe_int (fun _ _ => rfl))) pa_nil))))), ?_⟩
    walk_at "rd"
    rw [fr_sub]
    exact q
/-- _law_over -/
def spQ2 (K : PySem.W.Frag) : Sp := fun vs H Q _ => ∃ (x y : V) (p q : Rat), vs = [x, y] ∧ FrT K H x p ∧ FrT K H y q ∧ q ≠ 0 ∧ Qz 3900 p ∧ Qz 3900 q ∧ ∀ v H', Same H H' → FrT K H' v (p / q) → Q v H'
theorem sc__law_over : FnScope ["one", "two"] ["one", "two"] (defScope s__law_over) := ⟨rfl, rfl, rfl, by decide +kernel, rfl, by decide +kernel, by decide +kernel⟩
theorem d__law_over (W : FunIn K mg "_law_over" s__law_over) (D_law_lowest : Df P w K mg base "_law_lowest" 33 ["n", "m"] (spLowN K)) : Df P w K mg base "_law_over" 34 ["one", "two"] (spQ2 K) := by
  obtain ⟨f, fd, F, hm⟩ := W
  refine ⟨f, fd, F.ok sc__law_over (fun vs H Q E h => ?_) (fun cdv A outer s H vs Q E hr h => ?_), hm, F.kp, F.binds fun _ _ _ _ _ _ us hl => match us, hl with | [_, _], _ => rfl⟩
  · obtain ⟨x, y, p, q, rfl, _⟩ := h
    rfl
  · obtain ⟨x, y, p, r, rfl, ⟨a, rfl, ha⟩, ⟨b, rfl, hb⟩, hr0, zp, zr, q⟩ := h
    have b1 := zp.n
    have b2 := zp.dd
    have b3 := zr.n
    have b4 := zr.dd
    have hd : (p.den : Int) * r.num ≠ 0 := Int.mul_ne_zero (by have := p.den_nz; omega) (fun z => hr0 (Rat.num_eq_zero.mp z))
    refine ⟨_, (pss_one (ps_ret (pe_d D_law_lowest (hr.mono (by decide)) rfl (pa_cons (pe_op op_mulX (pe_ix ix_tup (pv 0) pe_int (fun _ _ => rfl)) (pe_ix ix_tup (pv 1) pe_int (fun _ _ => rfl))) (pa_cons (pe_op op_mulX (pe_ix ix_tup (pv 0) pe_int (fun _ _ => rfl)) (pe_ix ix_tup (pv 1) pe_int (fun _ _ => rfl))) pa_nil))))), ?_⟩
    walk_at "rd"
    rw [fr_div]
    exact q
theorem tr_map {c : Rat} {l : List Rat} (hc : c ≠ 0) (h : Tr l) : Tr (l.map (c * ·)) := fun hn => by
  have hl : l ≠ [] := fun z => hn (by rw [z]; rfl)
  rw [List.getLast_map]
  have := h hl
  grind
theorem tr_smul {c : Rat} {l : List Rat} (hc : c ≠ 0) (h : Tr l) : Tr (smul c l) := tr_map hc h
/-- _law_low: over its first number, which is not 0 -/
def spLaLow (K : PySem.W.Frag) : Sp := fun vs H Q _ => ∃ (x : V) (qs : List Rat) (b : Nat), vs = [x] ∧ RwT K H x qs ∧ Tr qs ∧ at0 qs 0 ≠ 0 ∧ Qs b qs ∧ 0 < b ∧ b ≤ 3900 ∧ qs.length < 900 ∧ ∀ v H', Same H H' → RwT K H' v (smul (1 / at0 qs 0) qs) → Q v H'
theorem sc__law_low : FnScope ["row", "some", "each"] ["row"] (defScope s__law_low) := ⟨rfl, rfl, rfl, by decide +kernel, rfl, by decide +kernel, by decide +kernel⟩
theorem d__law_low (W : FunIn K mg "_law_low" s__law_low) (D_law_scaled : Df P w K mg base "_law_scaled" 35 ["row", "by"] (spScale K)) (D_law_over : Df P w K mg base "_law_over" 34 ["one", "two"] (spQ2 K)) : Df P w K mg base "_law_low" 36 ["row"] (spLaLow K) := by
  obtain ⟨f, fd, F, hm⟩ := W
  refine ⟨f, fd, F.ok sc__law_low (fun vs H Q E h => ?_) (fun cdv A outer s H vs Q E hr h => ?_), hm, F.kp, F.binds fun _ _ _ _ _ _ us hl => match us, hl with | [_], _ => rfl⟩
  · obtain ⟨x, qs, b, rfl, _⟩ := h
    rfl
  · obtain ⟨x, qs, b, rfl, ⟨a, us, rfl, ha, hA⟩, ht, h0, zq, hb0, hb, hlen, q⟩ := h
    have nd := sc__law_low.nd
    have hL := hA.length
    have hrow : RwT K H (.ref a) qs := ⟨a, us, rfl, ha, hA⟩
    have hpos : 0 < qs.length := by
      refine Nat.pos_of_ne_zero fun z => h0 (at0_out (by omega))
    obtain ⟨u0, hu0, hf0⟩ := hA.get' (at0_get hpos)
    refine ⟨_, (pss_cons (ps_setLc (i := 1) (own := [("each", 2)]) rfl nd rfl rfl (sw_true rfl rfl rfl (by decide +kernel)) (pi_tup (pv 0)) (blkOk_by (own := [("each", 2)]) (N := ["row", "some", "each"]) (sc := defScope s__law_low) (by decide +kernel)) (fun _ _ _ _ _ => (pg_name (i := 2) nd rfl (Or.inl rfl) (Or.inr rfl))) (fun _ _ _ _ _ => (pts_one (pt_cmpR op_ne (pe_ix (ix_tupK (K := K) rfl) (pv 2) pe_int (fun _ _ => rfl)) pe_int (nomark _)))) (fun _ _ _ _ _ => (pv 2)))
        (pss_one (ps_ret (pe_d D_law_scaled (hr.mono (by decide)) rfl (pa_cons (pv 0) (pa_cons (pe_d D_law_over (hr.mono (by decide)) rfl (pa_cons (pe_tup (pa_cons pe_int (pa_cons pe_int pa_nil))) (pa_cons (pe_ix ix_list (pv 1) pe_int (fun _ _ => rfl)) pa_nil))) pa_nil)))))), ?_⟩
    refine ⟨_, rfl, a, rfl, ⟨us, ha⟩, fun D hD => lc_it (walk_tup (K := K) (a := a) (xs := us)) (fun i H1 => Same H H1 ∧ ∃ acc, H1 D = some (.lst acc) ∧ acc.length ≤ i ∧ (0 < i → acc[0]? = some u0)) ⟨same_new hD, [], upd_same, Nat.le_refl _, fun z => absurd z (Nat.lt_irrefl _)⟩ (fun i H1 _ p => same_seqT p.1 ha) ?_ ?_⟩
    · rintro i u H1 H2 hi ⟨s1, acc, e1, l1, p1⟩ ⟨rfl, hu⟩
      obtain ⟨r, hr1, hfr⟩ := hA.get hu
      have hfr1 := hfr.mono (same_t s1)
      obtain ⟨e, rfl, he⟩ := hfr1
      have hat : atI [V.int r.num, V.int (r.den : Int)] 0 = some (V.int r.num) := rfl
      refine ⟨rfl, ?_⟩
      walk_at "r0"
      refine tifn (fun hne => ?_) (fun hz => ?_)
      · refine ⟨_, rfl, acc, e1, by rw [sizeLine_eq]; omega, fun c o ec => ?_, acc ++ [V.ref e], upd_same, by rw [List.length_append]; show _ + 1 ≤ _; omega, fun _ => ?_⟩
        · rw [upd_ne (ne_of_none ec hD)]
          exact s1 _ _ ec
        · cases i with
          | zero =>
            have : acc = [] := List.eq_nil_of_length_eq_zero (by omega)
            rw [this]
            show some (V.ref e) = some u0
            rw [← hu, hu0]
          | succ i =>
            have := p1 (Nat.succ_pos _)
            have hl : 0 < acc.length := (List.getElem?_eq_some_iff.mp this).1
            rw [List.getElem?_append_left hl]
            exact this
      · refine ⟨s1, acc, e1, by omega, fun _ => ?_⟩
        cases i with
        | zero =>
          exfalso
          have e3 : r = at0 qs 0 := by
            rw [at0_get hpos] at hr1
            exact (Option.some.inj hr1).symm
          have := V.int.inj hz
          exact h0 (by rw [← e3]; exact Rat.num_eq_zero.mp this)
        | succ i => exact p1 (Nat.succ_pos _)
    · rintro H1 ⟨s1, acc, e1, l1, p1⟩
      have p0 := p1 (by omega)
      have hl1 : SqL K H1 D acc := SqL.of e1
      have hat : atI acc 0 = some u0 := atI_nat (j := 0) p0
      have hrow1 := hrow.mono (same_t s1)
      refine ⟨V.ref a, rfl, ?_⟩
      refine ⟨sz_of 2 rfl (by decide), fun p2 hp2 => ?_⟩
      have s2 := same_new (o := .tup [V.int 1, V.int 1]) hp2
      have q2 : SqT K (upd H1 p2 (.tup [V.int 1, V.int 1])) p2 [V.int 1, V.int 1] := SqT.of upd_same
      have e2 := s2 _ _ e1
      generalize upd H1 p2 (.tup [V.int 1, V.int 1]) = H2 at s2 q2 e2
      have f1 : FrT K H2 (.ref p2) 1 := ⟨p2, rfl, q2⟩
      have f0 : FrT K H2 u0 (at0 qs 0) := hf0.mono (same_t (s1.trans s2))
      have z0 : Qz b (at0 qs 0) := zq _ (at0_mem hpos)
      refine ⟨V.ref D, rfl, D, acc, 0, u0, rfl, rfl, SqL.of e2, hat, V.ref p2, u0, 1, at0 qs 0, rfl, f1, f0, h0, qz1 (by decide), z0.mono hb, fun v H3 s3 hv => ?_⟩
      refine ⟨V.ref a, v, qs, 1 / at0 qs 0, b, b, rfl, hrow1.mono (same_t (s2.trans s3)), hv, zq, qz_inv z0 h0, hb, hb, hlen, fun v4 r4 H4 s4 hv4 ht4 hev4 _ _ => ?_⟩
      have er : r4 = smul (1 / at0 qs 0) qs := ev_inj ht4 (tr_smul (by grind) ht) fun z => by rw [hev4]; exact (ev_scale _ _ _).symm
      rw [er] at hv4
      exact q v4 H4 (((s1.trans s2).trans s3).trans s4) hv4
/-- _law_led -/
def spLed (K : PySem.W.Frag) : Sp := fun vs H Q _ => ∃ (a : Addr) (m : Nat), vs = [.ref a, .int (m : Int)] ∧ RlAt a H ∧ m < 100 ∧ ∀ v r H', RlAt a H' → But a H H' → RwT K H' v r → Tr r → Qs 4 r → r.length ≤ m + 1 → at0 r 0 = 1 → Q v H'
end

end Vx
-- pyl
set_option Elab.async false
set_option linter.all false
set_option maxRecDepth 100000
set_option maxHeartbeats 4000000
namespace Vx
open PySem PySem.Spec PyProof.Rows L2
local macro_rules | `(tactic| walk_at "cl") => `(tactic| first | assumption | exact Bz.mono (Bz.mul (by assumption) (by assumption)) (by decide) | rfl | omega | exact sz_of 0 rfl (by decide) | exact sz_of 1 rfl (by decide) | exact sz_of 2 rfl (by decide) | exact sz_of 3 rfl (by decide) | exact cmulx (by assumption) (by assumption) (by decide) | exact Bz.mono (Bz.mul (by assumption) (by assumption)) (by decide) | decide)
local macro_rules | `(tactic| walk_at "ex") => `(tactic| ((show Exists _); first | apply @Exists.intro V | apply @Exists.intro Int | apply @Exists.intro Addr | apply @Exists.intro (List V) | apply @Exists.intro Nat | apply @Exists.intro Str | apply @Exists.intro Bool | apply @Exists.intro (Option V) | apply @Exists.intro String | apply @Exists.intro Rat | apply @Exists.intro (List Rat)))
local macro_rules | `(tactic| walk_at "rd") => `(tactic| ((repeat (first | (walk_at "ex") | (apply And.intro; (focus (walk_at "cl"))))); (try dsimp only [])))
local macro_rules | `(tactic| walk_at "r0") => `(tactic| (repeat (first | (walk_at "ex") | (apply And.intro; (focus (walk_at "cl"))))))
structure OneC (K : PySem.W.Frag) (mg : Str → Option Value) (aO : Addr) : Prop where
  g : mg "ONE" = some (.ref aO)
  fr : ∀ H : Hp, FrT K H (.ref aO) 1
section
variable {P : Program} {w : World} {K : PySem.W.Frag} {mg : Str → Option Value} {base : Heap}
theorem sc_ratio_over : FnScope ["one", "other"] ["one", "other"] (defScope s_ratio_over) := ⟨rfl, rfl, rfl, by decide +kernel, rfl, by decide +kernel, by decide +kernel⟩
theorem d_ratio_over (W : FunIn K mg "ratio_over" s_ratio_over) (Dratio : Df P w K mg base "ratio" 33 ["number", "under"] (spRatio K)) : Df P w K mg base "ratio_over" 34 ["one", "other"] (spQ2 K) := by
  obtain ⟨f, fd, F, hm⟩ := W
  refine ⟨f, fd, F.ok sc_ratio_over (fun vs H Q E h => ?_) (fun cdv A outer s H vs Q E hr h => ?_), hm, F.kp, F.binds fun _ _ _ _ _ _ us hl => match us, hl with | [_, _], _ => rfl⟩
  · obtain ⟨x, y, p, q, rfl, _⟩ := h
    rfl
  · obtain ⟨x, y, p, r, rfl, ⟨a, rfl, ha⟩, ⟨b, rfl, hb⟩, hr0, zp, zr, q⟩ := h
    have b1 := zp.n
    have b2 := zp.dd
    have b3 := zr.n
    have b4 := zr.dd
    have hd : (p.den : Int) * r.num ≠ 0 := Int.mul_ne_zero (by have := p.den_nz; omega) (fun z => hr0 (Rat.num_eq_zero.mp z))
    refine ⟨_, (pss_one (ps_ret (pe_d Dratio (hr.mono (by decide)) rfl (pa_cons (pe_op op_mulX (pe_ix ix_tup (pv 0) pe_int (fun _ _ => rfl)) (pe_ix ix_tup (pv 1) pe_int (fun _ _ => rfl))) (pa_cons (pe_op op_mulX (pe_ix ix_tup (pv 0) pe_int (fun _ _ => rfl)) (pe_ix ix_tup (pv 1) pe_int (fun _ _ => rfl))) pa_nil))))), ?_⟩
    walk_at "rd"
    rw [fr_div]
    exact q
/-- cleared, of a row over one divisor -/
def spClearD (K : PySem.W.Frag) : Sp := fun vs H Q _ => ∃ (x : V) (qs : List Rat) (d e : Nat), vs = [x] ∧ RwT K H x qs ∧ Cd d e qs ∧ d < 8990 ∧ e ≤ 50000 ∧ qs.length < 1000 ∧
  ∀ (t l : Addr) (ns : List Int) (D : Int) (H' : Hp), Same H H' → SqT K H' t [.ref l, .int D] → H' l = some (.lst (ns.map V.int)) → ns.length = qs.length → 0 < D → Bz (d + 1) D →
    (∀ n ∈ ns, Bz (e + 1) n) → ns.map (fun (n : Int) => (n : Rat)) = qs.map ((D : Rat) * ·) → Q (.ref t) H'
theorem d_clearedD (W : FunIn K mg "cleared" s_cleared) (T : Blt mg) (gl : mg "lcm" = some (.builtin "math.lcm")) : Df P w K mg base "cleared" 33 ["row"] (spClearD K) := by
  obtain ⟨f, fd, F, hm⟩ := W
  refine ⟨f, fd, F.ok sc_cleared (fun vs H Q E h => ?_) (fun cdv A outer s H vs Q E hr h => ?_), hm, F.kp, F.binds fun _ _ _ _ _ _ us hl => match us, hl with | [_], _ => rfl⟩
  · obtain ⟨x, qs, d, e, rfl, _⟩ := h
    rfl
  · obtain ⟨x, qs, d, e, rfl, ⟨a, us, rfl, ha, hA⟩, ⟨E, hE0, hEd, hE⟩, hd, he, hlen, q⟩ := h
    have nd := sc_cleared.nd
    have hL := hA.length
    have hdv : ∀ c ∈ qs, c.den ∣ E := fun c hc => let ⟨n, h1, _⟩ := hE c hc; den_dvd h1
    have hEz : ∀ D : Nat, 0 < D → D ∣ E → Bz (d + 1) (D : Int) := fun D _ h => by
      unfold Bz
      rw [Int.natAbs_natCast, Nat.pow_succ]
      have := Nat.le_of_dvd hE0 h
      have := Nat.two_pow_pos d
      omega
    refine ⟨_, (pss_cons (ps_set (i := 1) nd rfl (Or.inr rfl) pe_int)
        (pss_cons (ps_for PassesOwn.never rfl (pi_tup (pv 0)) (pg_name (i := 2) nd rfl (Or.inl rfl) (Or.inr rfl)) (pss_one (ps_set (i := 1) nd rfl (Or.inr rfl) (pe_callBfun cr_lcm (by rfl) gl (pa_cons (pv 1) (pa_cons (pe_ix ix_tup (pv 2) pe_int (fun _ _ => rfl)) pa_nil))))))
        (pss_one (ps_ret (pe_tup (pa_cons (pe_lc (own := [("number", 3), ("part", 4)]) rfl nd (pi_tup (pv 0)) (blkOk_by (own := [("number", 3), ("part", 4)]) (N := ["row", "under", "fraction", "number", "part"]) (sc := defScope s_cleared) (by decide +kernel)) (fun _ _ _ _ _ => (pg_pair (K := K) (i := 3) (j := 4) rfl rfl nd rfl rfl rfl rfl)) (fun _ _ _ _ _ => pts_nil) (fun _ _ _ _ _ => (pe_op op_mulX (pv 3) (pe_op op_fdivX (pv 1) (pv 4))))) (pa_cons (pv 1) pa_nil))))))), ?_⟩
    refine ⟨V.ref a, rfl, a, rfl, ⟨us, ha⟩, for_tup (K := K) (a := a) (xs := us) (fun i σ H' => ∃ (D : Nat) (o : Option V), σ = [some (.ref a), some (.int (D : Int)), o, none, none] ∧ H' = H ∧ 0 < D ∧ D ∣ E ∧ ∀ j, j < i → ∀ c, qs[j]? = some c → c.den ∣ D) ⟨1, none, rfl, rfl, by decide, Nat.one_dvd _, fun j hj => absurd hj (Nat.not_lt_zero _)⟩ (fun i σ H' _ ⟨_, _, _, e, _⟩ => by rw [e]; exact ha) ?_ ?_⟩
    · rintro i u σ H' hu ⟨D, o, rfl, rfl, hD0, hDE, hdvd⟩
      obtain ⟨c, hc, ⟨e', rfl, he'⟩⟩ := hA.get hu
      have hcE := hdv c (List.mem_of_getElem? hc)
      have z1 : Bz 9000 (D : Int) := (hEz D hD0 hDE).mono (by omega)
      have z2 : Bz 9000 (c.den : Int) := (hEz c.den c.den_pos hcE).mono (by omega)
      refine ⟨_, rfl, ?_⟩
      walk_at "rd"
      refine ⟨Nat.lcm_pos hD0 c.den_pos, Nat.lcm_dvd hDE hcE, fun j hj c' hc' => ?_⟩
      · rcases Nat.lt_or_eq_of_le (Nat.le_of_lt_succ hj) with hj | rfl
        · exact Nat.dvd_trans (hdvd j hj c' hc') (Nat.dvd_lcm_left _ _)
        · rw [hc] at hc'
          cases hc'
          exact Nat.dvd_lcm_right _ _
    · rintro σ H' ⟨D, o, rfl, rfl, hD0, hDE, hdvd⟩
      rw [hL] at hdvd
      have hdi : ∀ c ∈ qs, (c.den : Int) ∣ (D : Int) := fun c hc => by
        obtain ⟨j, hj⟩ := List.mem_iff_getElem?.mp hc
        exact Int.ofNat_dvd.mpr (hdvd j (List.getElem?_eq_some_iff.mp hj).1 c hj)
      have hDz := hEz D hD0 hDE
      have hbz : ∀ c ∈ qs, Bz (e + 1) (c.num * (D : Int).fdiv (c.den : Int)) := fun c hc => by
        obtain ⟨n, h1, h2⟩ := hE c hc
        have h3 := mul_den (hdv c hc)
        rw [h1] at h3
        have h4 : n = c.num * ((E / c.den : Nat) : Int) := by exact_mod_cast h3
        obtain ⟨k, hk⟩ := hDE
        have hcd : c.den ∣ D := Int.ofNat_dvd.mp (hdi c hc)
        have h5 : (D : Int).fdiv (c.den : Int) = ((D / c.den : Nat) : Int) := by
          rw [Int.fdiv_eq_ediv_of_nonneg _ (by omega)]
          rfl
        have hk0 : 0 < k := Nat.pos_of_ne_zero fun z => by rw [z, Nat.mul_zero] at hk; omega
        have h6 : D / c.den ≤ E / c.den := Nat.div_le_div_right (by rw [hk]; exact Nat.le_mul_of_pos_right _ hk0)
        unfold Bz
        rw [h5, Int.natAbs_mul, Int.natAbs_natCast, Nat.pow_succ]
        have h7 : c.num.natAbs * (D / c.den) ≤ n.natAbs := by
          rw [h4, Int.natAbs_mul, Int.natAbs_natCast]
          exact Nat.mul_le_mul_left _ h6
        have := Nat.two_pow_pos e
        omega
      refine ⟨V.ref a, rfl, a, rfl, ⟨us, ha⟩, fun l hl => lc_map (walk_tup (K := K) (a := a) (xs := us)) hl (by rw [sizeLine_eq]; omega) (fun i _ v => ∃ c, qs[i]? = some c ∧ v = .int (c.num * (D : Int).fdiv (c.den : Int))) (fun _ _ _ _ _ h => h) (fun H1 s1 => same_seqT s1 ha) ?_ ?_⟩
      · rintro i u H1 H2 hi s1 _ ⟨rfl, hu⟩ Fin hF
        obtain ⟨c, hc, ⟨e', rfl, he'⟩⟩ := hA.get hu
        have hcm := List.mem_of_getElem? hc
        have he1 := same_seqT s1 he'
        have c1 : CDivX (D : Int) (c.den : Int) := cdivx (by have := c.den_nz; omega) ((hEz c.den c.den_pos (hdv c hcm)).mono (by omega)) (Nat.le_refl 9000)
        have c2 : CMulX c.num ((D : Int).fdiv (c.den : Int)) := by
          have hn : Bz (e + 1) c.num := by
            obtain ⟨n, h1, h2⟩ := hE c hcm
            have h3 := mul_den (hdv c hcm)
            rw [h1] at h3
            have h4 : n = c.num * ((E / c.den : Nat) : Int) := by exact_mod_cast h3
            have h5 : 0 < E / c.den := Nat.div_pos (Nat.le_of_dvd hE0 (hdv c hcm)) c.den_pos
            unfold Bz
            rw [h4, Int.natAbs_mul, Int.natAbs_natCast] at h2
            have := Nat.le_mul_of_pos_right c.num.natAbs h5
            rw [Nat.pow_succ]
            have := Nat.two_pow_pos e
            omega
          refine cmulx (a := e + 1) (b := d + 1) hn ?_ (by omega)
          unfold Bz at *
          rw [Int.fdiv_eq_ediv_of_nonneg _ (by omega)]
          exact Nat.lt_of_le_of_lt (Int.natAbs_ediv_le_natAbs _ _) hDz
        walk_at "rd"
        exact hF _ _ (Same.refl _) ⟨c, hc, rfl⟩
      · rintro H1 acc s1 hacc hlen1 hel
        have hex : acc = ((qs.map fun c => c.num * (D : Int).fdiv (c.den : Int)) : List Int).map V.int := by
          refine List.ext_getElem? fun i => ?_
          by_cases hi : i < acc.length
          · obtain ⟨c, hc, hv⟩ := hel i _ (List.getElem?_eq_getElem hi)
            rw [List.getElem?_eq_getElem hi, hv, List.getElem?_map, List.getElem?_map, hc]
            rfl
          · rw [List.getElem?_eq_none (by omega), List.getElem?_eq_none (by simp only [List.length_map]; omega)]
        walk_at "rd"
        intro t ht
        have s2 := same_new (o := .tup [.ref l, .int (D : Int)]) ht
        refine q t l (qs.map fun c => c.num * (D : Int).fdiv (c.den : Int)) D _ (s1.trans s2) (SqT.of upd_same) (by rw [← hex]; exact s2 _ _ hacc) (List.length_map _) (by omega) hDz (fun n hn => ?_) ?_
        · obtain ⟨c, hc, rfl⟩ := List.mem_map.mp hn
          exact hbz c hc
        · rw [List.map_map]
          refine List.map_congr_left fun c hc => ?_
          exact clear_eq (hdi c hc)
/-- without_end, of whole numbers -/
def spEndI (K : PySem.W.Frag) : Sp := fun vs H Q _ => ∃ (l : Addr) (ns : List Int), vs = [.ref l, .int 0] ∧ SqL K H l (ns.map V.int) ∧ ns.length < 1000 ∧
  ∀ (p : Addr) (m : Nat) H', H p = none → Same H H' → H' p = some (.lst ((ns.take m).map V.int)) → m ≤ ns.length → Tr (toR (ns.take m)) → (∀ c ∈ ns.drop m, c = 0) → Q (.ref p) H'
theorem d_without_endI (W : FunIn K mg "without_end" s_without_end) (T : Blt mg) : Df P w K mg base "without_end" 33 ["numbers", "nought"] (spEndI K) := by
  obtain ⟨f, fd, F, hm⟩ := W
  refine ⟨f, fd, F.ok sc_without_end (fun vs H Q E h => ?_) (fun cdv A outer s H vs Q E hr h => ?_), hm, F.kp, F.binds fun _ _ _ _ _ _ us hl => match us, hl with | [_, _], _ => rfl⟩
  · obtain ⟨l, ns, rfl, _⟩ := h
    rfl
  · obtain ⟨l, ns, rfl, hl, hlen, q⟩ := h
    have nd := sc_without_end.nd
    have hl' : SqL K H l (ns.map V.int) ∨ SqT K H l (ns.map V.int) := Or.inl hl
    refine ⟨_, (pss_cons (ps_set (i := 2) nd rfl (Or.inl rfl) (pe_callB call_len_seq (by rfl) T.n_len (by decide +kernel) (pa_cons (pv 0) pa_nil)))
        (pss_cons (ps_while PassesOwn.never (PW.pt (pw_and (pt_cmpR op_gt (pv 2) pe_int (nomark _)) (pw_and1 (pt_cmpR op_eq (pe_ix ix_list (pv 0) (pe_op op_sub (pv 2) pe_int) (fun _ _ => rfl)) (pv 1) (nomark _))))) (pss_one (ps_aug (i := 2) nd rfl (Or.inl rfl) pe_int ip_sub)))
        (pss_one (ps_ret (pe_slice sl_list (pv 0) po_none (po_some (pv 2))))))), ?_⟩
    refine ⟨V.ref l, rfl, l, _, rfl, hl', ?_⟩
    refine ⟨fun m σ H' => σ = [some (.ref l), some (.int 0), some (.int (m : Int))] ∧ H' = H ∧ m ≤ ns.length ∧ ∀ c ∈ ns.drop m, c = 0, ⟨ns.length, by rw [List.length_map]; rfl, rfl, Nat.le_refl _, fun c hc => by rw [List.drop_length] at hc; cases hc⟩, ?_⟩
    rintro m σ H' ⟨rfl, rfl, hm, hz⟩
    have fin : ∀ (_ : m = 0 ∨ ∃ c, ns[m - 1]? = some c ∧ c ≠ 0 ∧ 0 < m), ∀ p, H' p = none → Q (.ref p) (upd H' p (.lst (cutV (ns.map V.int) none (some (m : Int))))) := fun hc p hp => by
      rw [cutV_take (by rw [List.length_map]; exact hm)]
      have e : (ns.map V.int).take m = (ns.take m).map V.int := by rw [List.map_take]
      rw [e]
      refine q p m _ hp (same_new hp) upd_same hm ?_ hz
      rcases hc with rfl | ⟨c, hc, h0, hm0⟩
      · exact tr_nil
      · have e2 : toR (ns.take m) = (toR ns).take m := by unfold toR; rw [List.map_take]
        rw [e2]
        have hl : m - 1 < (toR ns).length := by rw [toR_len]; omega
        refine tr_take_of hm0 (by rw [toR_len]; exact hm) ?_
        have : (toR ns)[m - 1]? = some (c : Rat) := by unfold toR; rw [List.getElem?_map, hc]; rfl
        rw [List.getElem?_eq_getElem hl] at this
        rw [Option.some.inj this]
        exact_mod_cast h0
    refine ⟨V.int (m : Int), rfl, _, _, rfl, rfl, _, rfl, ?_⟩
    refine tif (fun h0 => ?_) (fun h0 => ?_)
    · obtain ⟨c, hc⟩ : ∃ c, ns[m - 1]? = some c := ⟨_, List.getElem?_eq_getElem (by omega)⟩
      have hat : atI (ns.map V.int) ((m : Int) - 1) = some (V.int c) := at_of (j := m - 1) (by omega) (by rw [List.getElem?_map, hc]; rfl)
      refine ⟨V.ref l, rfl, V.int (m : Int), rfl, _, _, rfl, rfl, l, _, _, _, rfl, rfl, hl, hat, V.int 0, rfl, rfl, _, rfl, ?_⟩
      refine tif (fun hc0 => ?_) (fun hc0 => ?_)
      · refine ⟨fun σ' H'' => σ' = [some (.ref l), some (.int 0), some (.int ((m - 1 : Nat) : Int))] ∧ H'' = H', ?_, ?_⟩
        · rintro σ' H'' ⟨rfl, rfl⟩
          refine ⟨m - 1, by omega, rfl, rfl, by omega, fun c' hc' => ?_⟩
          rw [List.drop_eq_getElem_cons (by omega), show m - 1 + 1 = m by omega] at hc'
          rw [List.getElem?_eq_getElem (by omega)] at hc
          rcases List.mem_cons.mp hc' with z | z
          · rw [z, Option.some.inj hc]
            exact V.int.inj hc0
          · exact hz c' z
        · refine ⟨V.int (m : Int), rfl, _, _, rfl, rfl, ?_⟩
          refine ⟨?_, rfl⟩
          have : (m : Int) - 1 = ((m - 1 : Nat) : Int) := by omega
          show [some (V.ref l), some (V.int 0), some (V.int ((m : Int) - 1))] = _
          rw [this]
      · refine ⟨V.ref l, rfl, V.int (m : Int), rfl, _, rfl, l, _, rfl, hl, ?_⟩
        exact fin (.inr ⟨c, hc, fun z => hc0 (by rw [z]), by omega⟩)
    · refine ⟨V.ref l, rfl, V.int (m : Int), rfl, _, rfl, l, _, rfl, hl, ?_⟩
      exact fin (.inl (by omega))
end
end Vx
-- pyl
set_option Elab.async false
set_option linter.all false
set_option maxRecDepth 100000
set_option maxHeartbeats 4000000
namespace Vx
open PySem PySem.Spec PyProof.Rows L2
local macro_rules | `(tactic| walk_at "cl") => `(tactic| first | assumption | exact Bz.mono (Bz.mul (by assumption) (by assumption)) (by decide) | rfl | omega | exact sz_of 0 rfl (by decide) | exact sz_of 1 rfl (by decide) | exact sz_of 2 rfl (by decide) | exact sz_of 3 rfl (by decide) | exact cmulx (by assumption) (by assumption) (by decide) | exact Bz.mono (Bz.mul (by assumption) (by assumption)) (by decide) | decide)
local macro_rules | `(tactic| walk_at "ex") => `(tactic| ((show Exists _); first | apply @Exists.intro V | apply @Exists.intro Int | apply @Exists.intro Addr | apply @Exists.intro (List V) | apply @Exists.intro Nat | apply @Exists.intro Str | apply @Exists.intro Bool | apply @Exists.intro (Option V) | apply @Exists.intro String | apply @Exists.intro Rat | apply @Exists.intro (List Rat)))
local macro_rules | `(tactic| walk_at "rd") => `(tactic| ((repeat (first | (walk_at "ex") | (apply And.intro; (focus (walk_at "cl"))))); (try dsimp only [])))
local macro_rules | `(tactic| walk_at "r0") => `(tactic| (repeat (first | (walk_at "ex") | (apply And.intro; (focus (walk_at "cl"))))))
theorem rNeD_frC {K : PySem.W.Frag} {H : Hp} {x y : V} {p q : Rat} {Q : VK} {σ : L2.St} (hx : FrT K H x p) (hy : FrT K H y q) (h : Q (.bl (!decide (p = q))) H) : tC y σ H fun y H2 => rNeD K x y H2 Q := rNeD_fr hx hy h
theorem natAbs_gcd_dvd {g : Nat} {n : Int} {k : Nat} (h1 : k ∣ g) (h2 : (k : Int) ∣ n) : k ∣ Nat.gcd g n.natAbs := Nat.dvd_gcd h1 (Int.ofNat_dvd_left.mp h2)
theorem tr_first {l : List Rat} (h : ∃ c ∈ l, c ≠ 0) : ∃ i c, l[i]? = some c ∧ c ≠ 0 ∧ ∀ j, j < i → at0 l j = 0 := by
  induction l with
  | nil => obtain ⟨c, hc, _⟩ := h; cases hc
  | cons d l ih =>
    by_cases hd : d = 0
    · obtain ⟨i, c, h1, h2, h3⟩ := ih (by
        obtain ⟨c, hc, hne⟩ := h
        rcases List.mem_cons.mp hc with rfl | hc
        · exact absurd hd hne
        · exact ⟨c, hc, hne⟩)
      refine ⟨i + 1, c, h1, h2, fun j hj => ?_⟩
      cases j with
      | zero => exact hd
      | succ j => exact h3 j (by omega)
    · exact ⟨0, d, rfl, hd, fun j hj => absurd hj (Nat.not_lt_zero _)⟩
/-- the first number that is not 0 -/
def IsFirst (l : List Rat) (c : Rat) : Prop := c ≠ 0 ∧ ∃ i, l[i]? = some c ∧ ∀ j, j < i → at0 l j = 0
theorem first_lead {l : List Rat} {c : Rat} (h : IsFirst l c) : Lead1 (smul (1 / c) l) := by
  obtain ⟨h0, i, h1, h2⟩ := h
  refine ⟨i, ?_, fun j hj => ?_⟩
  · rw [at0_smul, at0_some h1]
    grind
  · rw [at0_smul, h2 j hj]
    grind
section
variable {P : Program} {w : World} {K : PySem.W.Frag} {mg : Str → Option Value} {base : Heap}
/-- common_factor, the greatest -/
def spCfG (K : PySem.W.Frag) : Sp := fun vs H Q _ => ∃ (l : Addr) (ns : List Int), vs = [.ref l] ∧ SqL K H l (ns.map V.int) ∧ ∀ g : Nat, (∀ n ∈ ns, (g : Int) ∣ n) → ((∃ n ∈ ns, n ≠ 0) → 0 < g) → (∀ b, (∀ n ∈ ns, Bz b n) → Bz b (g : Int)) → (∀ k : Nat, (∀ n ∈ ns, (k : Int) ∣ n) → k ∣ g) → Q (.int (g : Int)) H
theorem sc_common_factor : FnScope ["numbers", "part", "number"] ["numbers"] (defScope s_common_factor) := ⟨rfl, rfl, rfl, by decide +kernel, rfl, by decide +kernel, by decide +kernel⟩
theorem d_common_factorG (W : FunIn K mg "common_factor" s_common_factor) (T : Blt mg) : Df P w K mg base "common_factor" 33 ["numbers"] (spCfG K) := by
  obtain ⟨f, fd, F, hm⟩ := W
  refine ⟨f, fd, F.ok sc_common_factor (fun vs H Q E h => ?_) (fun cdv A outer s H vs Q E hr h => ?_), hm, F.kp, F.binds fun _ _ _ _ _ _ us hl => match us, hl with | [_], _ => rfl⟩
  · obtain ⟨l, ns, rfl, _⟩ := h
    rfl
  · obtain ⟨l, ns, rfl, hl, q⟩ := h
    have nd := sc_common_factor.nd
    refine ⟨_, (pss_cons (ps_set (i := 1) nd rfl (Or.inl rfl) pe_int)
        (pss_cons (ps_for PassesOwn.never rfl (pi_list (pv 0)) (pg_name (i := 2) nd rfl (Or.inl rfl) (Or.inr rfl)) (pss_one (ps_set (i := 1) nd rfl (Or.inl rfl) (pe_callBfun cr_gcd (by rfl) T.g_gcd (pa_cons (pv 1) (pa_cons (pv 2) pa_nil))))))
        (pss_one (ps_ret (pv 1))))), ?_⟩
    refine ⟨V.ref l, rfl, l, rfl, ⟨_, hl⟩, for_it (walk_list (K := K) (a := l) (xs := ns.map V.int)) (fun i σ H' => ∃ (g : Nat) (o : Option V), σ = [some (.ref l), some (.int (g : Int)), o] ∧ H' = H ∧ (∀ j, j < i → ∀ n, ns[j]? = some n → (g : Int) ∣ n) ∧ ((∃ j n, j < i ∧ ns[j]? = some n ∧ n ≠ 0) → 0 < g) ∧ (∀ b, (∀ n ∈ ns, Bz b n) → Bz b (g : Int)) ∧ ∀ k : Nat, (∀ n ∈ ns, (k : Int) ∣ n) → k ∣ g) ⟨0, none, rfl, rfl, fun j hj => absurd hj (Nat.not_lt_zero _), fun ⟨j, _, hj, _⟩ => absurd hj (Nat.not_lt_zero _), fun b _ => Nat.two_pow_pos b, fun k _ => Nat.dvd_zero k⟩ (fun i σ H' _ ⟨_, _, _, e, _⟩ => by rw [e]; exact hl) ?_ ?_⟩
    · rintro i u σ H1 _ hi ⟨g, o, rfl, rfl, hd, hp, hb, hk⟩ ⟨rfl, hu⟩
      rw [List.getElem?_map] at hu
      obtain ⟨n, hn, rfl⟩ := Option.map_eq_some_iff.mp hu
      refine ⟨V.int (g : Int), rfl, V.int n, rfl, _, _, rfl, ?_⟩
      refine ⟨Nat.gcd g n.natAbs, _, rfl, rfl, fun j hj m hm => ?_, fun hz => ?_, fun b hbb => ?_, fun k h => natAbs_gcd_dvd (hk k h) (h n (List.mem_of_getElem? hn))⟩
      · have d1 : ((Nat.gcd g n.natAbs : Nat) : Int) ∣ (g : Int) := Int.ofNat_dvd.mpr (Nat.gcd_dvd_left _ _)
        have d2 : ((Nat.gcd g n.natAbs : Nat) : Int) ∣ n := Int.ofNat_dvd_left.mpr (Nat.gcd_dvd_right _ _)
        rcases Nat.lt_or_eq_of_le (Nat.le_of_lt_succ hj) with hj | rfl
        · exact Int.dvd_trans d1 (hd j hj m hm)
        · rw [hn] at hm
          cases hm
          exact d2
      · obtain ⟨j, m, hj, hm, hm0⟩ := hz
        rcases Nat.lt_or_eq_of_le (Nat.le_of_lt_succ hj) with hj | rfl
        · exact Nat.gcd_pos_of_pos_left _ (hp ⟨j, m, hj, hm, hm0⟩)
        · rw [hn] at hm
          cases hm
          exact Nat.gcd_pos_of_pos_right _ (by omega)
      · by_cases h0 : n = 0
        · subst h0
          show Bz b ((Nat.gcd g 0 : Nat) : Int)
          rw [Nat.gcd_zero_right]
          exact hb b hbb
        · have h1 : Nat.gcd g n.natAbs ≤ n.natAbs := Nat.gcd_le_right _ (by omega)
          have h2 : Bz b n := hbb n (List.mem_of_getElem? hn)
          exact Nat.lt_of_le_of_lt (by rw [Int.natAbs_natCast]; exact h1) h2
    · rintro σ H1 ⟨g, o, rfl, rfl, hd, hp, hb, hk⟩
      rw [List.length_map] at hd hp
      refine ⟨_, rfl, q g (fun n hn => ?_) (fun ⟨n, hn, h0⟩ => ?_) hb hk⟩
      · obtain ⟨j, hj⟩ := List.mem_iff_getElem?.mp hn
        exact hd j (List.getElem?_eq_some_iff.mp hj).1 n hj
      · obtain ⟨j, hj⟩ := List.mem_iff_getElem?.mp hn
        exact hp ⟨j, n, (List.getElem?_eq_some_iff.mp hj).1, hj, h0⟩
/-- divided: without a common divisor -/
def spDvG (K : PySem.W.Frag) : Sp := fun vs H Q _ => ∃ (l : Addr) (ns : List Int) (b : Nat), vs = [.ref l] ∧ SqL K H l (ns.map V.int) ∧ (∀ n ∈ ns, Bz b n) ∧ b ≤ 900000 ∧ Tr (toR ns) ∧ ns.length < 1000 ∧
  ∀ (p : Addr) (ms : List Int) H', H p = none → Same H H' → H' p = some (.lst (ms.map V.int)) → PrimOf ns ms → (∀ m ∈ ms, Bz b m) → ms.length = ns.length → Q (.ref p) H'
theorem sc_divided : FnScope ["numbers", "part", "number"] ["numbers"] (defScope s_divided) := ⟨rfl, rfl, rfl, by decide +kernel, rfl, by decide +kernel, by decide +kernel⟩
theorem d_dividedG (W : FunIn K mg "divided" s_divided) (sy : Sys base) (hP : P.given.tree = none) (Dcommon_factor : Df P w K mg base "common_factor" 33 ["numbers"] (spCfG K)) : Df P w K mg base "divided" 34 ["numbers"] (spDvG K) := by
  obtain ⟨f, fd, F, hm⟩ := W
  refine ⟨f, fd, F.ok sc_divided (fun vs H Q E h => ?_) (fun cdv A outer s H vs Q E hr h => ?_), hm, F.kp, F.binds fun _ _ _ _ _ _ us hl => match us, hl with | [_], _ => rfl⟩
  · obtain ⟨l, ns, b, rfl, _⟩ := h
    rfl
  · obtain ⟨l, ns, b, rfl, hl, zb, hb, htr, hlen, q⟩ := h
    have nd := sc_divided.nd
    refine ⟨_, (pss_cons (ps_set (i := 1) nd rfl (Or.inr rfl) (pe_d Dcommon_factor (hr.mono (by decide)) rfl (pa_cons (pv 0) pa_nil)))
        (pss_one (ps_ret (pe_lc (own := [("number", 2)]) rfl nd (pi_list (pv 0)) (blkOk_by (own := [("number", 2)]) (N := ["numbers", "part", "number"]) (sc := defScope s_divided) (by decide +kernel)) (fun _ _ _ _ _ => (pg_name (i := 2) nd rfl (Or.inl rfl) (Or.inr rfl))) (fun _ _ _ _ _ => pts_nil) (fun _ _ _ _ _ => (pe_op (op_fdivY sy (hr.mono (by decide)) hP ⟨_, _, rfl, rfl, rfl, rfl, rfl⟩) (pv 2) (pv 1))))))), ?_⟩
    refine ⟨V.ref l, rfl, l, ns, rfl, hl, fun g g1 g2 g3 g4 => ?_⟩
    have hg0 : ns ≠ [] → 0 < g := fun hne => g2 (by
      have hr : toR ns ≠ [] := fun z => hne (toR_nil_iff.mp z)
      have := htr hr
      obtain ⟨n, hn, e⟩ := List.mem_map.mp (List.getLast_mem hr)
      refine ⟨n, hn, fun z => this ?_⟩
      rw [← e, z]
      push_cast
      rfl)
    refine ⟨V.ref l, rfl, l, rfl, ⟨_, hl⟩, fun D hD => lc_map (walk_list (K := K) (a := l) (xs := ns.map V.int)) hD (by rw [List.length_map, sizeLine_eq]; omega) (fun i _ v => ∃ c, ns[i]? = some c ∧ v = .int (c.fdiv (g : Int))) (fun _ _ _ _ _ h => h) (fun H1 s1 => s1.seq hl) ?_ ?_⟩
    · rintro i u H1 H2 hi s1 _ ⟨rfl, hu⟩ Fin hF
      rw [List.getElem?_map] at hu
      obtain ⟨n, hn, rfl⟩ := Option.map_eq_some_iff.mp hu
      have g0 : 0 < g := hg0 (fun z => by rw [z] at hn; cases hn)
      have c2 : CDivY n (g : Int) := cdivy (by omega) ((g3 b zb).mono hb) (Nat.le_refl _)
      walk_at "rd"
      exact hF _ _ (Same.refl _) ⟨n, hn, rfl⟩
    · intro H1 acc s1 hacc hlen1 hel
      have hex : acc = (ns.map fun n => n.fdiv (g : Int)).map V.int := by
        refine List.ext_getElem? fun i => ?_
        rw [List.length_map] at hlen1
        by_cases hi : i < acc.length
        · obtain ⟨c, hc, hv⟩ := hel i _ (List.getElem?_eq_getElem hi)
          rw [List.getElem?_eq_getElem hi, hv, List.getElem?_map, List.getElem?_map, hc]
          rfl
        · rw [List.getElem?_eq_none (by omega), List.getElem?_eq_none (by simp only [List.length_map]; omega)]
      rw [hex] at hacc
      by_cases hne : ns = []
      · subst hne
        refine q D [] H1 hD s1 hacc ⟨tr_nil, ⟨1, by decide, fun z => by show (0 : Rat) = 1 * 0; grind⟩, fun z => absurd rfl z⟩ (fun m hm => by cases hm) rfl
      have g0 := hg0 hne
      have hgi : (g : Int) ≠ 0 := by omega
      have hr : (1 : Rat) / ((g : Int) : Rat) ≠ 0 := by
        have : ((g : Int) : Rat) ≠ 0 := by exact_mod_cast hgi
        grind
      have e1 := toR_div hgi g1
      refine q D _ H1 hD s1 hacc ⟨?_, ⟨1 / ((g : Int) : Rat), hr, fun z => by rw [e1, ev_smul]⟩, fun _ k hk => ?_⟩ (fun m hm => ?_) (List.length_map _)
      · rw [e1]
        exact tr_smul hr htr
      · have h1 : ∀ n ∈ ns, ((k * g : Nat) : Int) ∣ n := fun n hn => by
          obtain ⟨m, hm⟩ := g1 n hn
          have h2 := hk (n.fdiv (g : Int)) (List.mem_map.mpr ⟨n, hn, rfl⟩)
          rw [hm, Int.mul_fdiv_cancel_left _ hgi] at h2
          obtain ⟨j, hj⟩ := h2
          refine ⟨j, ?_⟩
          rw [hm, hj]
          push_cast
          grind
        have h2 := Nat.le_of_dvd g0 (g4 _ h1)
        have h3 : 0 < k := by
          refine Nat.pos_of_ne_zero fun z => ?_
          rw [z, Nat.zero_mul] at h1
          have := g4 0 h1
          omega
        have : k ≤ 1 := Nat.le_of_mul_le_mul_right (by omega) g0
        omega
      · obtain ⟨n, hn, rfl⟩ := List.mem_map.mp hm
        unfold Bz
        rw [Int.fdiv_eq_ediv_of_nonneg _ (by omega)]
        exact Nat.lt_of_le_of_lt (Int.natAbs_ediv_le_natAbs _ _) (zb n hn)
/-- primitive -/
def spPrim (K : PySem.W.Frag) : Sp := fun vs H Q _ => ∃ (l : Addr) (ns : List Int) (b : Nat), vs = [.ref l] ∧ SqL K H l (ns.map V.int) ∧ (∀ n ∈ ns, Bz b n) ∧ b ≤ 900000 ∧ ns.length < 1000 ∧
  ∀ (p : Addr) (ms : List Int) H', H p = none → Same H H' → H' p = some (.lst (ms.map V.int)) → PrimOf ns ms → (∀ m ∈ ms, Bz b m) → ms.length ≤ ns.length → Q (.ref p) H'
theorem sc_primitive : FnScope ["numbers"] ["numbers"] (defScope s_primitive) := ⟨rfl, rfl, rfl, by decide +kernel, rfl, by decide +kernel, by decide +kernel⟩
theorem d_primitive (W : FunIn K mg "primitive" s_primitive) (Dwithout_end : Df P w K mg base "without_end" 33 ["numbers", "nought"] (spEndI K)) (Ddivided : Df P w K mg base "divided" 34 ["numbers"] (spDvG K)) : Df P w K mg base "primitive" 35 ["numbers"] (spPrim K) := by
  obtain ⟨f, fd, F, hm⟩ := W
  refine ⟨f, fd, F.ok sc_primitive (fun vs H Q E h => ?_) (fun cdv A outer s H vs Q E hr h => ?_), hm, F.kp, F.binds fun _ _ _ _ _ _ us hl => match us, hl with | [_], _ => rfl⟩
  · obtain ⟨l, ns, b, rfl, _⟩ := h
    rfl
  · obtain ⟨l, ns, b, rfl, hl, zb, hb, hlen, q⟩ := h
    refine ⟨_, (pss_one (ps_ret (pe_d Ddivided (hr.mono (by decide)) rfl (pa_cons (pe_d Dwithout_end (hr.mono (by decide)) rfl (pa_cons (pv 0) (pa_cons pe_int pa_nil))) pa_nil)))), ?_⟩
    refine ⟨V.ref l, rfl, l, ns, rfl, hl, hlen, fun p m H1 hp s1 e1 hm htr hz => ?_⟩
    have lm : (ns.take m).length ≤ ns.length := by rw [List.length_take]; omega
    refine ⟨p, ns.take m, b, rfl, SqL.of e1, fun n hn => zb n (List.mem_of_mem_take hn), hb, htr, by omega, fun p2 ms H2 hp2 s2 e2 hP hB hl2 => ?_⟩
    refine q p2 ms H2 (s1.free hp2) (s1.trans s2) e2 ⟨hP.tr, ?_, hP.g⟩ hB (by omega)
    obtain ⟨c, c0, hc⟩ := hP.c
    refine ⟨c, c0, fun z => ?_⟩
    rw [hc]
    congr 1
    have e3 : toR (ns.take m) = (toR ns).take m := by unfold toR; rw [List.map_take]
    rw [e3]
    refine ev_take_drop _ _ (fun x hx => ?_) z
    have e4 : (toR ns).drop m = toR (ns.drop m) := by unfold toR; rw [List.map_drop]
    rw [e4] at hx
    obtain ⟨n, hn, rfl⟩ := List.mem_map.mp hx
    rw [hz n hn]
    push_cast
    rfl
/-- first_fraction -/
def spFirst (K : PySem.W.Frag) : Sp := fun vs H Q _ => ∃ (x : V) (qs : List Rat), vs = [x] ∧ RwT K H x qs ∧ (∃ c ∈ qs, c ≠ 0) ∧ ∀ v c, FrT K H v c → IsFirst qs c → Q v H
theorem sc_first_fraction : FnScope ["row", "number"] ["row"] (defScope s_first_fraction) := ⟨rfl, rfl, rfl, by decide +kernel, rfl, by decide +kernel, by decide +kernel⟩
theorem d_first_fraction {aNIL : Addr} (W : FunIn K mg "first_fraction" s_first_fraction) (hNIL : NilC K mg aNIL) : Df P w K mg base "first_fraction" 33 ["row"] (spFirst K) := by
  obtain ⟨f, fd, F, hm⟩ := W
  refine ⟨f, fd, F.ok sc_first_fraction (fun vs H Q E h => ?_) (fun cdv A outer s H vs Q E hr h => ?_), hm, F.kp, F.binds fun _ _ _ _ _ _ us hl => match us, hl with | [_], _ => rfl⟩
  · obtain ⟨x, qs, rfl, _⟩ := h
    rfl
  · obtain ⟨x, qs, rfl, ⟨a, us, rfl, ha, hA⟩, hne, q⟩ := h
    have nd := sc_first_fraction.nd
    have hL := hA.length
    obtain ⟨i0, c0, h1, h2, h3⟩ := tr_first hne
    refine ⟨_, (pss_cons (ps_for PassesOwn.never rfl (pi_tup (pv 0)) (pg_name (i := 1) nd rfl (Or.inl rfl) (Or.inr rfl)) (pss_one (ps_if (pt_cmpR (op_neD (hu64 hr)) (pv 1) (pe_glob (v := .ref aNIL) rfl hNIL.g rfl) (nomark _)) (pss_one (ps_ret (pv 1))) pss_nil)))
        (pss_one (ps_ret (pe_glob (v := .ref aNIL) rfl hNIL.g rfl)))), ?_⟩
    refine ⟨V.ref a, rfl, a, rfl, ⟨us, ha⟩, for_tup (K := K) (a := a) (xs := us) (fun i σ H' => ∃ (o : Option V), σ = [some (.ref a), o] ∧ H' = H ∧ i ≤ i0) ⟨none, rfl, rfl, Nat.zero_le _⟩ (fun i σ H' _ ⟨_, _, e, _⟩ => by rw [e]; exact ha) ?_ ?_⟩
    · rintro i u σ H' hu ⟨o, rfl, rfl, hi⟩
      obtain ⟨c, hc, hf⟩ := hA.get hu
      refine ⟨u, rfl, ?_⟩
      refine rNeD_frC hf (hNIL.fr _) ⟨_, rfl, ?_⟩
      refine tifn (fun hc0 => ?_) (fun hc0 => ?_)
      · have e : i = i0 := by
          refine Nat.le_antisymm hi (Nat.le_of_not_lt fun z => ?_)
          have := h3 i z
          rw [at0_some hc] at this
          exact hc0 this
        subst e
        rw [hc] at h1
        refine ⟨u, rfl, q u c hf ⟨hc0, i, hc, h3⟩⟩
      · refine ⟨_, rfl, rfl, ?_⟩
        rcases Nat.lt_or_eq_of_le hi with h | h
        · exact h
        · rw [h, h1] at hc
          exact absurd ((Option.some.inj hc).trans hc0) h2
    · rintro σ H' ⟨o, rfl, rfl, hi⟩
      have := (List.getElem?_eq_some_iff.mp h1).1
      omega
/-- scaled -/
def spScl (K : PySem.W.Frag) : Sp := fun vs H Q _ => ∃ (x y : V) (qs : List Rat) (c : Rat) (b e : Nat), vs = [x, y] ∧ RwT K H x qs ∧ FrT K H y c ∧ Qs b qs ∧ Qz e c ∧ b ≤ 3900 ∧ e ≤ 3900 ∧ qs.length < 900 ∧ ∀ v H', Same H H' → RwT K H' v (smul c qs) → Q v H'
theorem sc_scaled : FnScope ["row", "fraction", "number"] ["row", "fraction"] (defScope s_scaled) := ⟨rfl, rfl, rfl, by decide +kernel, rfl, by decide +kernel, by decide +kernel⟩
theorem d_scaled (W : FunIn K mg "scaled" s_scaled) (T : Blt mg) (Dratio_product : Df P w K mg base "ratio_product" 34 ["one", "other"] (spR2 K (fun p q => p * q))) : Df P w K mg base "scaled" 35 ["row", "fraction"] (spScl K) := by
  obtain ⟨f, fd, F, hm⟩ := W
  refine ⟨f, fd, F.ok sc_scaled (fun vs H Q E h => ?_) (fun cdv A outer s H vs Q E hr h => ?_), hm, F.kp, F.binds fun _ _ _ _ _ _ us hl => match us, hl with | [_, _], _ => rfl⟩
  · obtain ⟨x, y, qs, c, b, e, rfl, _⟩ := h
    rfl
  · obtain ⟨x, y, qs, c, b, e, rfl, ⟨a, us, rfl, ha, hA⟩, hy, zq, zc, hb, he, hlen, q⟩ := h
    have nd := sc_scaled.nd
    have hL := hA.length
    refine ⟨_, (pss_one (ps_ret (pe_callTy call_tuple_of (by rfl) T.n_tuple (by decide +kernel) (pa_cons (pe_lc (own := [("number", 2)]) rfl nd (pi_tup (pv 0)) (blkOk_by (own := [("number", 2)]) (N := ["row", "fraction", "number"]) (sc := defScope s_scaled) (by decide +kernel)) (fun _ _ _ _ _ => (pg_name (i := 2) nd rfl (Or.inl rfl) (Or.inr rfl))) (fun _ _ _ _ _ => pts_nil) (fun _ _ _ _ _ => (pe_d Dratio_product (hr.mono (by decide)) rfl (pa_cons (pv 2) (pa_cons (pv 1) pa_nil))))) pa_nil)))), ?_⟩
    refine ⟨V.ref a, rfl, a, rfl, ⟨us, ha⟩, fun D hD => lc_map (walk_tup (K := K) (a := a) (xs := us)) hD (by rw [sizeLine_eq]; omega) (fun i H' v => FrT K H' v (c * at0 qs i)) (fun i H' H'' v e h => h.mono e) (fun H1 s1 => same_seqT s1 ha) ?_ ?_⟩
    · rintro i u H1 H2 hi s1 _ ⟨rfl, hu⟩ Fin hF
      obtain ⟨r, hr, hfr⟩ := hA.get hu
      have zr : Qz 3900 r := (zq r (List.mem_of_getElem? hr)).mono hb
      refine ⟨rfl, u, rfl, y, rfl, u, y, r, c, rfl, hfr.mono (same_t s1), hy.mono (same_t s1), zr, zc.mono he, fun v H3 s3 hv => ?_⟩
      refine hF _ _ s3 ?_
      rw [at0_some hr, show c * r = r * c by grind]
      exact hv
    · intro H1 acc s1 hacc hlen1 hel
      have hA3 : FrA K H1 acc (smul c qs) := by
        refine Al.of (by rw [smul_len]; omega) fun i v g h1 h2 => ?_
        have h3 := hel i v h1
        have h4 := at0_some h2
        rw [at0_smul] at h4
        rw [h4] at h3
        exact h3
      refine ⟨D, acc, rfl, Or.inl ⟨SqL.of hacc, fun t ht => ?_⟩⟩
      have s4 := same_new (o := .tup acc) ht
      exact q _ _ (s1.trans s4) ⟨t, acc, rfl, SqT.of upd_same, fra_mono (same_t s4) hA3⟩
/-- quotient_of -/
def spQuo (K : PySem.W.Frag) : Sp := fun vs H Q _ => ∃ (x y : V) (ps qs : List Rat) (b1 b2 : Nat), vs = [x, y] ∧ RwT K H x ps ∧ RwT K H y qs ∧ Tr qs ∧ qs ≠ [] ∧ Qs b1 ps ∧ Qs b2 qs ∧ ps.length < 100 ∧ qs.length < 100 ∧ bSplit ps.length b1 qs.length b2 ≤ 8000 ∧
  ∀ (v : V) (q r : List Rat) H', Same H H' → RwT K H' v q → Tr q → Tr r → (∀ z, ev ps z = ev q z * ev qs z + ev r z) → r.length < qs.length → Q v H'
theorem sc_quotient_of : FnScope ["row", "other"] ["row", "other"] (defScope s_quotient_of) := ⟨rfl, rfl, rfl, by decide +kernel, rfl, by decide +kernel, by decide +kernel⟩
theorem d_quotient_of (W : FunIn K mg "quotient_of" s_quotient_of) (Dsplit_row : Df P w K mg base "split_row" 36 ["row", "other"] (spSplit K)) : Df P w K mg base "quotient_of" 37 ["row", "other"] (spQuo K) := by
  obtain ⟨f, fd, F, hm⟩ := W
  refine ⟨f, fd, F.ok sc_quotient_of (fun vs H Q E h => ?_) (fun cdv A outer s H vs Q E hr h => ?_), hm, F.kp, F.binds fun _ _ _ _ _ _ us hl => match us, hl with | [_, _], _ => rfl⟩
  · obtain ⟨x, y, ps, qs, b1, b2, rfl, _⟩ := h
    rfl
  · obtain ⟨x, y, ps, qs, b1, b2, rfl, hx, hy, tq, nq, z1, z2, l1, l2, hb, q⟩ := h
    refine ⟨_, (pss_one (ps_ret (pe_ix ix_tup (pe_d Dsplit_row (hr.mono (by decide)) rfl (pa_cons (pv 0) (pa_cons (pv 1) pa_nil))) pe_int (fun _ _ => rfl)))), ?_⟩
    refine ⟨x, rfl, y, rfl, x, y, ps, qs, b1, b2, rfl, hx, hy, tq, nq, z1, z2, l1, l2, hb, fun t v1 v2 qq r H3 s3 ht h1 h2 tqq trr hev hlt _ _ _ _ => ?_⟩
    have hat : atI [v1, v2] 0 = some v1 := rfl
    refine ⟨t, _, 0, v1, rfl, rfl, ht, hat, ?_⟩
    exact q v1 qq r H3 s3 h1 tqq trr hev hlt
end
end Vx
namespace Vx
theorem ev_ats {p q : List Rat} (h : ∀ z, ev p z = ev q z) (i : Nat) : at0 p i = at0 q i := by
  have h0 := ev_nought (l := ladd p (q.map ((-1 : Rat) * ·))) fun z => by
    rw [ev_ladd, ev_scale, h]
    grind
  have e : at0 (ladd p (q.map ((-1 : Rat) * ·))) i = 0 := by
    by_cases hi : i < (ladd p (q.map ((-1 : Rat) * ·))).length
    · exact h0 _ (at0_mem hi)
    · exact at0_out (by omega)
  rw [at0_ladd] at e
  have e2 : at0 (q.map ((-1 : Rat) * ·)) i = -1 * at0 q i := at0_smul _ _ _
  rw [e2] at e
  grind
theorem cd_over {r : List Rat} {ns : List Int} {m : Int} {d e : Nat} (h : ∀ x, ev r x = ev (toR ns) x / (m : Rat)) (hm : m ≠ 0) (hd : Bz d m) (he : ∀ n ∈ ns, Bz e n) : Cd d e r := by
  have hmr : (m : Rat) ≠ 0 := by exact_mod_cast hm
  have h1 : ∀ i, at0 r i = 1 / (m : Rat) * at0 (toR ns) i := fun i => by
    rw [← at0_smul]
    refine ev_ats (fun z => ?_) i
    rw [ev_smul, h]
    grind
  refine ⟨m.natAbs, by omega, Nat.le_of_lt hd, fun c hc => ?_⟩
  obtain ⟨i, hi⟩ := List.mem_iff_getElem?.mp hc
  have e1 := at0_some hi
  rw [h1, toR_at] at e1
  have hb : (ns.getD i 0).natAbs ≤ 2 ^ e := by
    by_cases hl : i < ns.length
    · have : ns.getD i 0 ∈ ns := by
        rw [List.getD_eq_getElem?_getD, List.getElem?_eq_getElem hl]
        exact List.getElem_mem hl
      exact Nat.le_of_lt (he _ this)
    · rw [List.getD_eq_getElem?_getD, List.getElem?_eq_none (by omega)]
      exact Nat.zero_le _
  rcases Int.natAbs_eq m with z | z
  · refine ⟨ns.getD i 0, ?_, hb⟩
    have e2 : ((m.natAbs : Nat) : Rat) = (m : Rat) := by exact_mod_cast z.symm
    rw [e2, ← e1]
    grind
  · refine ⟨-ns.getD i 0, ?_, by rw [Int.natAbs_neg]; exact hb⟩
    have e2 : ((m.natAbs : Nat) : Rat) = -(m : Rat) := by
      have : ((m.natAbs : Nat) : Int) = -m := by omega
      exact_mod_cast this
    rw [e2, ← e1]
    push_cast
    grind
/-! a cofactor below the other's degree is the only one, and small -/
theorem len_of_mul {w b x : List Rat} (tw : Tr w) (tb : Tr b) (nb : b ≠ []) (h : ∀ z, ev w z = ev b z * ev x z) (lw : w.length < b.length) : w = [] := by
  obtain ⟨x', x1, _, x3⟩ := trim_ex x
  have := no_small x1 tb nb tw (by omega) (fun z => by rw [h, x3]; grind)
  subst this
  refine ev_inj tw tr_nil fun z => ?_
  rw [h, ← x3, ev_nil]
  grind
end Vx
namespace Vx
theorem ints_of {D b : Nat} : ∀ {l : List Rat}, (∀ c ∈ l, ∃ n : Int, c * (D : Rat) = (n : Rat) ∧ n.natAbs ≤ 2 ^ b) → ∃ ns : List Int, toR ns = smul (D : Rat) l ∧ ns.length = l.length ∧ ∀ n ∈ ns, n.natAbs ≤ 2 ^ b
  | [], _ => ⟨[], rfl, rfl, fun n h => by cases h⟩
  | c :: l, h => by
    obtain ⟨ns, h1, h2, h3⟩ := ints_of (l := l) fun c hc => h c (List.mem_cons_of_mem _ hc)
    obtain ⟨n, e1, e2⟩ := h c List.mem_cons_self
    refine ⟨n :: ns, ?_, by rw [List.length_cons, List.length_cons, h2], fun m hm => ?_⟩
    · show (n : Rat) :: toR ns = (D : Rat) * c :: smul (D : Rat) l
      rw [h1, ← e1, Rat.mul_comm]
    · rcases List.mem_cons.mp hm with rfl | hm
      · exact e2
      · exact h3 m hm
def bCof (l e N : Nat) : Nat := l + e + (l + e) * N
theorem cd_prop {u : List Int} {E : List Rat} {D1 d B : Nat} {x : Int} (hx : x ≠ 0) (hxb : x.natAbs ≤ 2 ^ B) (hub : ∀ n ∈ u, n.natAbs ≤ 2 ^ B) (hD : D1 ≤ 2 ^ d) (h : ∀ z, (D1 : Rat) * ev (toR u) z = (x : Rat) * ev E z) : Cd B (B + d) E := by
  have hxr : (x : Rat) ≠ 0 := by exact_mod_cast hx
  have h1 : ∀ i, (x : Rat) * at0 E i = (D1 : Rat) * at0 (toR u) i := fun i => by
    rw [← at0_smul, ← at0_smul]
    refine ev_ats (fun z => ?_) i
    rw [ev_smul, ev_smul, h]
  refine ⟨x.natAbs, by omega, hxb, fun c hc => ?_⟩
  obtain ⟨i, hi⟩ := List.mem_iff_getElem?.mp hc
  have e1 := h1 i
  rw [at0_some hi, toR_at] at e1
  have hb : ((D1 : Int) * u.getD i 0).natAbs ≤ 2 ^ (B + d) := by
    rw [Int.natAbs_mul, Int.natAbs_natCast, Nat.pow_add, Nat.mul_comm]
    refine Nat.mul_le_mul ?_ hD
    by_cases hl : i < u.length
    · have : u.getD i 0 ∈ u := by
        rw [List.getD_eq_getElem?_getD, List.getElem?_eq_getElem hl]
        exact List.getElem_mem hl
      exact hub _ this
    · rw [List.getD_eq_getElem?_getD, List.getElem?_eq_none (by omega)]
      exact Nat.zero_le _
  rcases Int.natAbs_eq x with z | z
  · refine ⟨(D1 : Int) * u.getD i 0, ?_, hb⟩
    have e2 : ((x.natAbs : Nat) : Rat) = (x : Rat) := by exact_mod_cast z.symm
    rw [e2]
    push_cast
    rw [Rat.mul_comm, e1]
  · refine ⟨-((D1 : Int) * u.getD i 0), ?_, by rw [Int.natAbs_neg]; exact hb⟩
    have e2 : ((x.natAbs : Nat) : Rat) = -(x : Rat) := by
      have : ((x.natAbs : Nat) : Int) = -x := by omega
      exact_mod_cast this
    rw [e2]
    push_cast
    grind
theorem cof_small {ps qs g o t E F : List Rat} {d e l : Nat} (tp : Tr ps) (tq : Tr qs) (np : ps ≠ []) (nq : qs ≠ []) (tg : Tr g) (ld : Lead1 g) (to : Tr o) (tt : Tr t) (tE : Tr E) (tF : Tr F)
    (ho : ∀ z, ev ps z = ev o z * ev g z) (ht : ∀ z, ev qs z = ev t z * ev g z) (h2 : 2 ≤ t.length) (lE : E.length < t.length) (h : ∀ z, ev E z * ev ps z + ev F z * ev qs z = ev g z)
    (cp : Cd d e ps) (cq : Cd d e qs) (hl : ps.length + qs.length ≤ 2 ^ l) : Cd (bCof l e (ps.length + qs.length)) (bCof l e (ps.length + qs.length) + d) E ∧ Cd (bCof l e (ps.length + qs.length)) (bCof l e (ps.length + qs.length) + d) F := by
  obtain ⟨D1, d10, d1b, d1c⟩ := cp
  obtain ⟨D2, d20, d2b, d2c⟩ := cq
  obtain ⟨an, a1, a2, a3⟩ := ints_of d1c
  obtain ⟨bn, b1, b2, b3⟩ := ints_of d2c
  have ng : g ≠ [] := ld.ne
  have nt : t ≠ [] := fun z => by rw [z] at h2; exact absurd h2 (by decide)
  have no : o ≠ [] := fun z => np (ev_nil_of tp ho (.inl z))
  have lq : qs.length + 1 = t.length + g.length := by
    rw [prod_is tt tg tq ht nt ng]
    exact (pmul_shape t g nt ng).1
  have lp : ps.length + 1 = o.length + g.length := by
    rw [prod_is to tg tp ho no ng]
    exact (pmul_shape o g no ng).1
  have lo := List.length_pos_iff.mpr no
  obtain ⟨u, v, w, lu, lv, lw, hn, huv, hw, he⟩ := small_combo (an := an) (bn := bn) (A := 2 ^ e) (ls := g.length) a3 b3 (Nat.two_pow_pos e) (by omega) (by omega) (by omega)
  have hN : an.length + bn.length ≤ 2 ^ l := by omega
  have hpb := pow_bits (A := 2 ^ e) hN (Nat.le_refl _)
  have hX : ((an.length + bn.length) * 2 ^ e) ^ (an.length + bn.length) ≤ 2 ^ (l + e + (l + e) * (an.length + bn.length)) := by
    have g1 : (an.length + bn.length) * 2 ^ e ≤ 2 ^ (l + e) := by
      rw [Nat.pow_add]
      exact Nat.mul_le_mul_right _ hN
    refine Nat.le_trans (Nat.pow_le_pow_left g1 _) ?_
    rw [← Nat.pow_mul]
    exact Nat.pow_le_pow_right (by decide) (by omega)
  rw [a2, b2] at hpb hX huv hw
  have hB : l + e + (l + e) * (ps.length + qs.length) = bCof l e (ps.length + qs.length) := rfl
  rw [hB] at hpb hX
  -- what the combination is: a number times g
  have d1r : (D1 : Rat) ≠ 0 := by exact_mod_cast (show D1 ≠ 0 by omega)
  have d2r : (D2 : Rat) ≠ 0 := by exact_mod_cast (show D2 ≠ 0 by omega)
  have ean : ∀ z, ev (toR an) z = (D1 : Rat) * ev ps z := fun z => by rw [a1, ev_smul]
  have ebn : ∀ z, ev (toR bn) z = (D2 : Rat) * ev qs z := fun z => by rw [b1, ev_smul]
  obtain ⟨X, x1, x2, x3⟩ := trim_ex (ladd (smul D1 (pmul (toR u) o)) (smul D2 (pmul (toR v) t)))
  have eX : ∀ z, ev X z = (D1 : Rat) * ev (toR u) z * ev o z + (D2 : Rat) * ev (toR v) z * ev t z := fun z => by
    rw [x3, ev_ladd, ev_smul, ev_smul, ev_pmul, ev_pmul]
    grind
  have ewX : ∀ z, ev (toR w) z = ev X z * ev g z := fun z => by
    rw [he, eX, ean, ebn, ho, ht]
    grind
  obtain ⟨w', w1, w2, w3⟩ := trim_ex (toR w)
  rw [toR_len, lw] at w2
  obtain ⟨x, hX1, hxw⟩ : ∃ x : Int, (∀ z, ev X z = (x : Rat)) ∧ x.natAbs ≤ 2 ^ bCof l e (ps.length + qs.length) := by
    obtain ⟨i, gi, gj⟩ := ld
    have key : ∃ r : Rat, ∀ z, ev X z = r := by
      by_cases hX0 : X = []
      · exact ⟨0, fun z => by rw [hX0]; rfl⟩
      · have lX := prod_is x1 tg w1 (fun z => by rw [w3, ewX]) hX0 ng
        have l2 := (pmul_shape X g hX0 ng).1
        rw [← lX] at l2
        have : X.length = 1 := by
          have := List.length_pos_iff.mpr hX0
          omega
        match X, this with
        | [r], _ => exact ⟨r, fun z => by show r + z * 0 = r; grind⟩
    obtain ⟨r, hr⟩ := key
    have e1 : at0 (toR w) i = at0 (smul r g) i := ev_ats (fun z => by rw [ewX, hr, ev_smul]) i
    rw [toR_at, at0_smul, gi] at e1
    have e2 : (w.getD i 0 : Rat) = r := by rw [e1]; grind
    refine ⟨w.getD i 0, fun z => by rw [hr, e2], ?_⟩
    by_cases hl : i < w.length
    · have : w.getD i 0 ∈ w := by
        rw [List.getD_eq_getElem?_getD, List.getElem?_eq_getElem hl]
        exact List.getElem_mem hl
      exact Nat.le_trans (hw _ this) hpb
    · rw [List.getD_eq_getElem?_getD, List.getElem?_eq_none (by omega)]
      exact Nat.zero_le _
  have one : ∀ z, ev E z * ev o z + ev F z * ev t z = 1 := by
    have := ev_cancel (x := ladd (pmul E o) (pmul F t)) (y := [1]) tg ng fun z => by
      rw [ev_ladd, ev_pmul, ev_pmul, ev_one]
      have := h z
      rw [ho, ht] at this
      grind
    intro z
    have := this z
    rw [ev_ladd, ev_pmul, ev_pmul, ev_one] at this
    exact this
  -- D1 u = x E
  have hE : ∀ z, (D1 : Rat) * ev (toR u) z = (x : Rat) * ev E z := by
    obtain ⟨Y, y1, y2, y3⟩ := trim_ex (ladd (smul D1 (toR u)) (smul (-(x : Rat)) E))
    have eY : ∀ z, ev Y z = (D1 : Rat) * ev (toR u) z - (x : Rat) * ev E z := fun z => by
      rw [y3, ev_ladd, ev_smul, ev_smul]
      grind
    rw [ladd_length, smul_len, smul_len, toR_len] at y2
    have := len_of_mul y1 tt nt (x := ladd (pmul F Y) (pmul E (ladd (smul (x : Rat) F) (smul (-(D2 : Rat)) (toR v))))) (fun z => by
      rw [ev_ladd, ev_pmul, ev_pmul, ev_ladd, ev_smul, ev_smul, eY]
      have h1 := one z
      have h3 := hX1 z
      rw [eX] at h3
      have h4 : ((D1 : Rat) * ev (toR u) z - (x : Rat) * ev E z) * ev o z = ((x : Rat) * ev F z - (D2 : Rat) * ev (toR v) z) * ev t z := by
        have h5 : (x : Rat) * (ev E z * ev o z + ev F z * ev t z) = x := by rw [h1]; grind
        grind
      have h6 : ((D1 : Rat) * ev (toR u) z - (x : Rat) * ev E z) * (ev E z * ev o z + ev F z * ev t z) = (D1 : Rat) * ev (toR u) z - (x : Rat) * ev E z := by rw [h1]; grind
      have h7 : ((D1 : Rat) * ev (toR u) z - (x : Rat) * ev E z) * (ev E z * ev o z + ev F z * ev t z) = ev E z * (((D1 : Rat) * ev (toR u) z - (x : Rat) * ev E z) * ev o z) + ((D1 : Rat) * ev (toR u) z - (x : Rat) * ev E z) * (ev F z * ev t z) := by grind
      rw [h4, h6] at h7
      rw [h7]
      grind) (by omega)
    intro z
    have e0 := eY z
    rw [this, ev_nil] at e0
    grind
  have hF : ∀ z, (D2 : Rat) * ev (toR v) z = (x : Rat) * ev F z := by
    have := ev_cancel (x := smul D2 (toR v)) (y := smul (x : Rat) F) tt nt fun z => by
      rw [ev_smul, ev_smul]
      have h1 := one z
      have h3 := hX1 z
      rw [eX, hE] at h3
      have h5 : (x : Rat) * (ev E z * ev o z + ev F z * ev t z) = x := by rw [h1]; grind
      grind
    intro z
    have := this z
    rwa [ev_smul, ev_smul] at this
  have hx0 : x ≠ 0 := fun z => by
    subst z
    have all : ∀ (l : List Int) (D : Nat) (G : List Rat), (D : Rat) ≠ 0 → (∀ z', (D : Rat) * ev (toR l) z' = ((0 : Int) : Rat) * ev G z') → ∀ n ∈ l, n = 0 := fun l D G hD hl0 n hn' => by
      have := ev_nought (l := toR l) (fun z => by
        have := hl0 z
        have e0 : ((0 : Int) : Rat) = 0 := rfl
        rw [e0, Rat.zero_mul] at this
        rcases Rat.mul_eq_zero.mp this with h | h
        · exact absurd h hD
        · exact h) (n : Rat) (List.mem_map.mpr ⟨n, hn', rfl⟩)
      exact_mod_cast this
    obtain ⟨y, hy, hy0⟩ := hn
    rcases List.mem_append.mp hy with hy | hy
    · exact hy0 (all u D1 E d1r hE y hy)
    · exact hy0 (all v D2 F d2r hF y hy)
  exact ⟨cd_prop hx0 hxw (fun n hn => Nat.le_trans (huv n (List.mem_append_left _ hn)) hX) d1b hE, cd_prop hx0 hxw (fun n hn => Nat.le_trans (huv n (List.mem_append_right _ hn)) hX) d2b hF⟩
end Vx
namespace Vx
/-! sums of sequences -/
def sm (g : Nat → Rat) : Nat → Rat
  | 0 => 0
  | n + 1 => sm g n + g n
theorem sm_congr {f g : Nat → Rat} : ∀ n, (∀ i, i < n → f i = g i) → sm f n = sm g n
  | 0, _ => rfl
  | n + 1, h => by
    show sm f n + f n = sm g n + g n
    rw [sm_congr n fun i hi => h i (by omega), h n (by omega)]
theorem sm_add (f g : Nat → Rat) : ∀ n, sm (fun i => f i + g i) n = sm f n + sm g n
  | 0 => by show (0 : Rat) = 0 + 0; grind
  | n + 1 => by
    show sm (fun i => f i + g i) n + (f n + g n) = (sm f n + f n) + (sm g n + g n)
    rw [sm_add f g n]
    grind
theorem sm_mul (c : Rat) (f : Nat → Rat) : ∀ n, sm (fun i => c * f i) n = c * sm f n
  | 0 => by show (0 : Rat) = c * 0; grind
  | n + 1 => by
    show sm (fun i => c * f i) n + c * f n = c * (sm f n + f n)
    rw [sm_mul c f n]
    grind
theorem sm_zero {f : Nat → Rat} (n : Nat) (h : ∀ i, i < n → f i = 0) : sm f n = 0 := by
  induction n with
  | zero => rfl
  | succ n ih =>
    show sm f n + f n = 0
    rw [ih fun i hi => h i (by omega), h n (by omega)]
    grind
theorem sm_front (g : Nat → Rat) : ∀ n, sm g (n + 1) = g 0 + sm (fun i => g (i + 1)) n
  | 0 => by show (0 : Rat) + g 0 = g 0 + 0; grind
  | n + 1 => by
    show sm g (n + 1) + g (n + 1) = g 0 + (sm (fun i => g (i + 1)) n + g (n + 1))
    rw [sm_front g n]
    grind
theorem sm_rev (g : Nat → Rat) : ∀ n, sm (fun i => g (n - 1 - i)) n = sm g n
  | 0 => rfl
  | n + 1 => by
    rw [sm_front]
    show g n + sm (fun i => g (n - (i + 1))) n = sm g n + g n
    rw [sm_congr (g := fun i => g (n - 1 - i)) n fun i _ => by rw [show n - (i + 1) = n - 1 - i by omega], sm_rev g n]
    grind
theorem sm_le {f g : Nat → Rat} : ∀ n, (∀ i, i < n → f i ≤ g i) → sm f n ≤ sm g n
  | 0, _ => Rat.le_refl
  | n + 1, h => by
    show sm f n + f n ≤ sm g n + g n
    have := sm_le n fun i hi => h i (by omega)
    have := h n (by omega)
    grind
theorem sm_ext {f : Nat → Rat} {n : Nat} : ∀ m, n ≤ m → (∀ i, n ≤ i → f i = 0) → sm f m = sm f n
  | 0, hm, _ => by rw [show n = 0 by omega]
  | m + 1, hm, h => by
    by_cases e : n = m + 1
    · rw [e]
    · show sm f m + f m = _
      rw [sm_ext m (by omega) h, h m (by omega)]
      grind
theorem sq0 (x : Rat) : 0 ≤ x * x := by
  rcases (by grind : x ≤ 0 ∨ 0 ≤ x) with h | h
  · have := Rat.mul_nonneg (show 0 ≤ -x by grind) (show 0 ≤ -x by grind)
    grind
  · exact Rat.mul_nonneg h h
theorem mul_le {a b c : Rat} (hc : 0 ≤ c) (h : a ≤ b) : c * a ≤ c * b := Rat.mul_le_mul_of_nonneg_left h hc
theorem sq_pos {x : Rat} (h : x ≠ 0) : 0 < x * x := by
  rcases (by grind : x < 0 ∨ 0 < x) with h | h
  · have := Rat.mul_pos (show 0 < -x by grind) (show 0 < -x by grind)
    grind
  · exact Rat.mul_pos h h
/-! sums of squares -/
def SS (z : Nat → Rat) (n : Nat) : Rat := sm (fun i => z i * z i) n
theorem ss_succ (z : Nat → Rat) (n : Nat) : SS z (n + 1) = SS z n + z n * z n := rfl
theorem ss_congr {z w : Nat → Rat} (n : Nat) (h : ∀ i, i < n → z i = w i) : SS z n = SS w n := sm_congr n fun i hi => by rw [h i hi]
theorem ss0 (z : Nat → Rat) : ∀ n, 0 ≤ SS z n
  | 0 => Rat.le_refl
  | n + 1 => by
    rw [ss_succ]
    have := ss0 z n
    have := sq0 (z n)
    grind
theorem ss_mono {z : Nat → Rat} {n : Nat} : ∀ m, n ≤ m → SS z n ≤ SS z m
  | 0, h => by rw [show n = 0 by omega]; exact Rat.le_refl
  | m + 1, h => by
    by_cases e : n = m + 1
    · rw [e]
      exact Rat.le_refl
    · rw [ss_succ]
      have := ss_mono (z := z) m (show n ≤ m by omega)
      have := sq0 (z m)
      grind
theorem ss_le {z x w : Nat → Rat} {a b : Rat} (h : ∀ m, z m * z m ≤ a * (x m * x m) + b * (w m * w m)) : ∀ n, SS z n ≤ a * SS x n + b * SS w n
  | 0 => by show (0 : Rat) ≤ a * 0 + b * 0; grind
  | n + 1 => by
    rw [ss_succ, ss_succ, ss_succ]
    have := ss_le h n
    have := h n
    grind
theorem ss_tail {z w : Nat → Rat} {n : Nat} (h : ∀ m, n ≤ m → z m = w m) : ∀ k, SS z (n + k) - SS z n = SS w (n + k) - SS w n
  | 0 => by rw [Nat.add_zero]; grind
  | k + 1 => by
    rw [← Nat.add_assoc, ss_succ, ss_succ, h (n + k) (by omega)]
    have := ss_tail h k
    grind
/-- later by one beat -/
def sh (z : Nat → Rat) : Nat → Rat
  | 0 => 0
  | m + 1 => z m
theorem ss_sh (z : Nat → Rat) : ∀ n, SS (sh z) (n + 1) = SS z n
  | 0 => by show (0 : Rat) + 0 * 0 = 0; grind
  | n + 1 => by rw [ss_succ, ss_sh z n]; rfl
theorem ss_sh_le (z : Nat → Rat) (n : Nat) : SS (sh z) n ≤ SS z n := by
  cases n with
  | zero => exact Rat.le_refl
  | succ n =>
    rw [ss_sh]
    exact ss_mono _ (by omega)
/-! folded products -/
def cf (f y : Nat → Rat) (m : Nat) : Rat := sm (fun i => f i * y (m - i)) (m + 1)
theorem cf_comm (f y : Nat → Rat) (m : Nat) : cf f y m = cf y f m := by
  unfold cf
  rw [← sm_rev]
  refine sm_congr _ fun i hi => ?_
  rw [show m + 1 - 1 - i = m - i by omega, show m - (m - i) = i by omega]
  grind
theorem cf_sh (f y : Nat → Rat) (m : Nat) : cf (sh f) y m = sh (cf f y) m := by
  cases m with
  | zero => show (0 : Rat) + 0 * y 0 = 0; grind
  | succ m =>
    unfold cf
    rw [sm_front]
    show 0 * y _ + _ = sm (fun i => f i * y (m - i)) (m + 1)
    rw [sm_congr (g := fun i => f i * y (m - i)) (m + 1) fun i _ => by
      show f i * y (m + 1 - (i + 1)) = _
      rw [show m + 1 - (i + 1) = m - i by omega]]
    grind
theorem sh_congr {z w : Nat → Rat} {m : Nat} (h : ∀ i, i < m → z i = w i) : sh z m = sh w m := by
  cases m with
  | zero => rfl
  | succ m => exact h m (by omega)
theorem cf_congr {f g y z : Nat → Rat} {m : Nat} (h : ∀ i, i ≤ m → f i = g i) (h2 : ∀ i, i ≤ m → y i = z i) : cf f y m = cf g z m := sm_congr _ fun i hi => by rw [h i (by omega), h2 (m - i) (by omega)]
theorem cf_lin {f g e : Nat → Rat} {c d : Rat} (y : Nat → Rat) {m : Nat} (h : ∀ i, e i = c * f i + d * g i) : cf e y m = c * cf f y m + d * cf g y m := by
  unfold cf
  rw [← sm_mul, ← sm_mul, ← sm_add]
  refine sm_congr _ fun i _ => ?_
  rw [h i]
  grind
theorem cf_linR {f y z e : Nat → Rat} {c d : Rat} {m : Nat} (h : ∀ i, e i = c * y i + d * z i) : cf f e m = c * cf f y m + d * cf f z m := by
  rw [cf_comm, cf_lin f h, cf_comm y, cf_comm z]
theorem cf_shR (f y : Nat → Rat) (m : Nat) : cf f (sh y) m = sh (cf f y) m := by
  rw [cf_comm, cf_sh]
  exact sh_congr fun i _ => cf_comm _ _ _
def dl : Nat → Rat
  | 0 => 1
  | _ + 1 => 0
theorem cf_dl (y : Nat → Rat) (m : Nat) : cf dl y m = y m := by
  unfold cf
  rw [sm_front, sm_zero m fun i _ => by show (0 : Rat) * _ = 0; grind]
  show 1 * y (m - 0) + 0 = _
  rw [Nat.sub_zero]
  grind
theorem cf_dlR (f : Nat → Rat) (m : Nat) : cf f dl m = f m := by rw [cf_comm, cf_dl]
theorem at0_cons (c : Rat) (p : List Rat) (i : Nat) : at0 (c :: p) i = c * dl i + 1 * sh (at0 p) i := by
  cases i with
  | zero => show c = c * 1 + 1 * 0; grind
  | succ i => show at0 p i = c * 0 + 1 * at0 p i; grind
theorem cf_cons (c : Rat) (p : List Rat) (y : Nat → Rat) (m : Nat) : cf (at0 (c :: p)) y m = c * y m + sh (cf (at0 p) y) m := by
  rw [cf_lin y (at0_cons c p), cf_dl, cf_sh]
  grind
theorem cf_nil (y : Nat → Rat) (m : Nat) : cf (at0 []) y m = 0 := sm_zero _ fun i _ => by
  rw [at0_out (Nat.zero_le _)]
  grind
/-- a row makes no more than so much of anything -/
theorem fir (p : List Rat) : ∃ B : Rat, 0 ≤ B ∧ ∀ z n, SS (cf (at0 p) z) n ≤ B * SS z n := by
  induction p with
  | nil =>
    refine ⟨0, Rat.le_refl, fun z n => ?_⟩
    have : SS (cf (at0 []) z) n = 0 := sm_zero _ fun i _ => by rw [cf_nil]; grind
    rw [this]
    grind
  | cons c p ih =>
    obtain ⟨B, h0, h⟩ := ih
    refine ⟨2 * (c * c) + 2 * B, by have := sq0 c; grind, fun z n => ?_⟩
    have h1 := ss_le (z := cf (at0 (c :: p)) z) (x := z) (w := sh (cf (at0 p) z)) (a := 2 * (c * c)) (b := 2) (fun m => by
      rw [cf_cons]
      have := sq0 (c * z m - sh (cf (at0 p) z) m)
      grind) n
    have h2 := ss_sh_le (cf (at0 p) z) n
    have h3 := h z n
    grind
/-- 1 over the row makes no more than so much of anything -/
def Good (f : Nat → Rat) : Prop := ∃ C : Rat, 0 ≤ C ∧ ∀ y n, SS y n ≤ C * SS (cf f y) n
theorem Good.congr {f g : Nat → Rat} (h : Good f) (e : ∀ i, f i = g i) : Good g := by
  have : f = g := funext e
  rw [← this]
  exact h
theorem Good.head {f : Nat → Rat} (h : Good f) : f 0 ≠ 0 := fun z => by
  obtain ⟨C, _, h⟩ := h
  have h1 := h dl 1
  have e1 : SS dl 1 = 1 := by show (0 : Rat) + 1 * 1 = 1; grind
  have e2 : SS (cf f dl) 1 = 0 := by
    show (0 : Rat) + cf f dl 0 * cf f dl 0 = 0
    rw [cf_dlR, z]
    grind
  rw [e1, e2] at h1
  grind
/-! products -/
def mulP : List Rat → List Rat → List Rat
  | [], _ => []
  | c :: p, q => ladd (smul c q) (0 :: mulP p q)
theorem at0_ladd' : ∀ (a b : List Rat) (i : Nat), at0 (ladd a b) i = at0 a i + at0 b i
  | [], b, i => by
    show at0 b i = _
    rw [at0_out (l := []) (Nat.zero_le _)]
    grind
  | c :: a, [], i => by
    show at0 (c :: a) i = _
    rw [at0_out (l := []) (Nat.zero_le _)]
    grind
  | c :: a, d :: b, 0 => rfl
  | c :: a, d :: b, i + 1 => at0_ladd' a b i
theorem ev_mulP : ∀ (p q : List Rat) (x : Rat), ev (mulP p q) x = ev p x * ev q x
  | [], q, x => by show (0 : Rat) = 0 * _; grind
  | c :: p, q, x => by
    show ev (ladd (smul c q) (0 :: mulP p q)) x = (c + x * ev p x) * ev q x
    rw [ev_ladd]
    have e1 : ev (smul c q) x = c * ev q x := ev_scale _ _ _
    have e2 : ev (0 :: mulP p q) x = 0 + x * ev (mulP p q) x := rfl
    rw [e1, e2, ev_mulP p q x]
    grind
theorem cf_mulP : ∀ (p q : List Rat) (y : Nat → Rat) (m : Nat), cf (at0 (mulP p q)) y m = cf (at0 p) (cf (at0 q) y) m
  | [], q, y, m => by
    show cf (at0 []) y m = _
    rw [cf_nil, cf_nil]
  | c :: p, q, y, m => by
    rw [cf_cons]
    have h : ∀ i, at0 (mulP (c :: p) q) i = c * at0 q i + 1 * sh (at0 (mulP p q)) i := fun i => by
      show at0 (ladd (smul c q) (0 :: mulP p q)) i = _
      rw [at0_ladd', at0_smul]
      cases i with
      | zero => show _ + (0 : Rat) = _ + 1 * 0; grind
      | succ i => show _ + at0 (mulP p q) i = _ + 1 * at0 (mulP p q) i; grind
    rw [cf_lin y h, cf_sh, sh_congr fun i _ => cf_mulP p q y i]
    grind
theorem good_mul {p q : List Rat} : Good (at0 (mulP p q)) ↔ (Good (at0 p) ∧ Good (at0 q)) := by
  have half : ∀ p q : List Rat, Good (at0 (mulP p q)) → Good (at0 q) := by
    rintro p q ⟨C, h0, h⟩
    obtain ⟨B, b0, hB⟩ := fir p
    refine ⟨C * B, Rat.mul_nonneg h0 b0, fun y n => ?_⟩
    have h1 := h y n
    rw [ss_congr n fun i _ => cf_mulP p q y i] at h1
    have h2 := hB (cf (at0 q) y) n
    have h3 := mul_le h0 h2
    grind
  have comm : ∀ p q : List Rat, ∀ i, at0 (mulP p q) i = at0 (mulP q p) i := fun p q i => by
    have h0 := ev_nought (l := ladd (mulP p q) ((mulP q p).map ((-1 : Rat) * ·))) fun z => by
      rw [ev_ladd, ev_scale, ev_mulP, ev_mulP]
      grind
    have e : at0 (ladd (mulP p q) ((mulP q p).map ((-1 : Rat) * ·))) i = 0 := by
      by_cases hi : i < (ladd (mulP p q) ((mulP q p).map ((-1 : Rat) * ·))).length
      · exact h0 _ (at0_mem hi)
      · exact at0_out (by omega)
    rw [at0_ladd'] at e
    have e2 : at0 ((mulP q p).map ((-1 : Rat) * ·)) i = -1 * at0 (mulP q p) i := at0_smul _ _ _
    rw [e2] at e
    grind
  constructor
  · intro h
    exact ⟨half q p (h.congr (comm p q)), half p q h⟩
  · rintro ⟨⟨C, h0, h⟩, ⟨D, d0, hD⟩⟩
    refine ⟨D * C, Rat.mul_nonneg d0 h0, fun y n => ?_⟩
    rw [ss_congr n fun i _ => cf_mulP p q y i]
    have h1 := hD y n
    have h2 := mul_le d0 (h (cf (at0 q) y) n)
    grind
/-- rows of the worths of a product -/
theorem good_prod {p q r : List Rat} (h : ∀ x, ev r x = ev p x * ev q x) : Good (at0 r) ↔ (Good (at0 p) ∧ Good (at0 q)) := by
  rw [← good_mul]
  have e : ∀ i, at0 r i = at0 (mulP p q) i := fun i => by
    have h0 := ev_nought (l := ladd r ((mulP p q).map ((-1 : Rat) * ·))) fun z => by
      rw [ev_ladd, ev_scale, ev_mulP, h]
      grind
    have e : at0 (ladd r ((mulP p q).map ((-1 : Rat) * ·))) i = 0 := by
      by_cases hi : i < (ladd r ((mulP p q).map ((-1 : Rat) * ·))).length
      · exact h0 _ (at0_mem hi)
      · exact at0_out (by omega)
    rw [at0_ladd'] at e
    have e2 : at0 ((mulP p q).map ((-1 : Rat) * ·)) i = -1 * at0 (mulP p q) i := at0_smul _ _ _
    rw [e2] at e
    grind
  exact ⟨fun g => g.congr e, fun g => g.congr fun i => (e i).symm⟩
/-! back to front -/
def rv (n : Nat) (f : Nat → Rat) (i : Nat) : Rat := if i ≤ n then f (n - i) else 0
/-- nothing behind -/
def Sp0 (n : Nat) (f : Nat → Rat) : Prop := ∀ i, n < i → f i = 0
theorem rv_sp (n : Nat) (f : Nat → Rat) : Sp0 n (rv n f) := fun i hi => if_neg (by omega)
theorem auto_rv {n : Nat} {f : Nat → Rat} (hf : Sp0 n f) (j K : Nat) (hK : n < K) : sm (fun m => f (m + j) * f m) K = sm (fun m => rv n f (m + j) * rv n f m) K := by
  by_cases hj : j ≤ n
  · have e1 : sm (fun m => f (m + j) * f m) K = sm (fun m => f (m + j) * f m) (n - j + 1) := sm_ext K (by omega) fun i hi => by
      show f (i + j) * f i = 0
      rw [hf (i + j) (by omega)]
      grind
    have e2 : sm (fun m => rv n f (m + j) * rv n f m) K = sm (fun m => rv n f (m + j) * rv n f m) (n - j + 1) := sm_ext K (by omega) fun i hi => by
      show rv n f (i + j) * rv n f i = 0
      rw [rv_sp n f (i + j) (by omega)]
      grind
    rw [e1, e2, ← sm_rev]
    refine sm_congr _ fun i hi => ?_
    unfold rv
    rw [if_pos (by omega), if_pos (by omega), show n - j + 1 - 1 - i + j = n - i by omega, show n - j + 1 - 1 - i = n - (i + j) by omega]
    grind
  · rw [sm_zero K fun i _ => by
      show f (i + j) * f i = 0
      rw [hf (i + j) (by omega)]
      grind, sm_zero K fun i _ => by
      show rv n f (i + j) * rv n f i = 0
      rw [rv_sp n f (i + j) (by omega)]
      grind]
def tr (N : Nat) (y : Nat → Rat) (m : Nat) : Rat := if m < N then y m else 0
theorem tr_succ (N : Nat) (y : Nat → Rat) (i : Nat) : tr (N + 1) y i = y 0 * dl i + 1 * sh (tr N fun m => y (m + 1)) i := by
  unfold tr
  cases i with
  | zero =>
    rw [if_pos (by omega)]
    show y 0 = y 0 * 1 + 1 * 0
    grind
  | succ i =>
    show _ = y 0 * 0 + 1 * (if i < N then y (i + 1) else 0)
    by_cases h : i < N
    · rw [if_pos (by omega), if_pos h]
      grind
    · rw [if_neg (by omega), if_neg h]
      grind
theorem cf_tr (f : Nat → Rat) (N : Nat) (y : Nat → Rat) (m : Nat) : cf f (tr (N + 1) y) m = y 0 * f m + 1 * sh (cf f (tr N fun m => y (m + 1))) m := by
  rw [cf_linR (tr_succ N y), cf_dlR, cf_shR]
theorem ip_sh (f w : Nat → Rat) (j : Nat) : ∀ K, sm (fun m => f (m + j) * sh w m) (K + 1) = sm (fun m => f (m + (j + 1)) * w m) K := fun K => by
  rw [sm_front]
  show f (0 + j) * 0 + sm (fun i => f (i + 1 + j) * w i) K = _
  rw [sm_congr (g := fun m => f (m + (j + 1)) * w m) K fun i _ => by
    show f (i + 1 + j) * w i = f (i + (j + 1)) * w i
    rw [show i + 1 + j = i + (j + 1) by omega]]
  grind
theorem tr_zero (f y : Nat → Rat) (m : Nat) : cf f (tr 0 y) m = 0 := sm_zero _ fun i _ => by
  show f i * (if m - i < 0 then _ else 0) = 0
  rw [if_neg (by omega)]
  grind
theorem ip_rv {n : Nat} {f : Nat → Rat} (hf : Sp0 n f) : ∀ (N : Nat) (y : Nat → Rat) (j K : Nat), N + n ≤ K → 0 < K → sm (fun m => f (m + j) * cf f (tr N y) m) K = sm (fun m => rv n f (m + j) * cf (rv n f) (tr N y) m) K
  | 0, y, j, K, _, _ => by
    rw [sm_zero K fun i _ => by
      show f (i + j) * cf f (tr 0 y) i = 0
      rw [tr_zero]
      grind, sm_zero K fun i _ => by
      show rv n f (i + j) * cf (rv n f) (tr 0 y) i = 0
      rw [tr_zero]
      grind]
  | N + 1, y, j, K, hK, h0 => by
    have key : ∀ g : Nat → Rat, sm (fun m => g (m + j) * cf g (tr (N + 1) y) m) K = y 0 * sm (fun m => g (m + j) * g m) K + sm (fun m => g (m + j) * sh (cf g (tr N fun m => y (m + 1))) m) K := fun g => by
      rw [← sm_mul, ← sm_add]
      refine sm_congr _ fun i _ => ?_
      rw [cf_tr]
      grind
    rw [key f, key (rv n f), auto_rv hf j K (by omega)]
    obtain ⟨K', rfl⟩ : ∃ K', K = K' + 1 := ⟨K - 1, by omega⟩
    rw [ip_sh, ip_sh]
    by_cases hK0 : 0 < K'
    · rw [ip_rv hf N _ (j + 1) K' (by omega) hK0]
    · have : K' = 0 := by omega
      subst this
      rfl
theorem ss_rv {n : Nat} {f : Nat → Rat} (hf : Sp0 n f) : ∀ (N : Nat) (y : Nat → Rat) (K : Nat), N + n ≤ K → SS (cf f (tr N y)) K = SS (cf (rv n f) (tr N y)) K
  | 0, y, K, _ => ss_congr K fun i _ => by rw [tr_zero, tr_zero]
  | N + 1, y, K, hK => by
    obtain ⟨K', rfl⟩ : ∃ K', K = K' + 1 := ⟨K - 1, by omega⟩
    have key : ∀ g : Nat → Rat, SS (cf g (tr (N + 1) y)) (K' + 1) = y 0 * y 0 * sm (fun m => g (m + 0) * g m) (K' + 1) + (2 * y 0 * sm (fun m => g (m + (0 + 1)) * cf g (tr N fun m => y (m + 1)) m) K' + SS (cf g (tr N fun m => y (m + 1))) K') := fun g => by
      rw [← ss_sh (cf g (tr N fun m => y (m + 1))), ← ip_sh]
      unfold SS
      rw [← sm_mul, ← sm_mul, ← sm_add, ← sm_add]
      refine sm_congr _ fun i _ => ?_
      rw [cf_tr]
      show _ = y 0 * y 0 * (g i * g i) + (2 * y 0 * (g i * sh (cf g (tr N fun m => y (m + 1))) i) + _)
      grind
    rw [key f, key (rv n f), auto_rv hf 0 (K' + 1) (by omega), ss_rv hf N _ K' (by omega)]
    by_cases hK0 : 0 < K'
    · rw [ip_rv hf N _ (0 + 1) K' (by omega) hK0]
    · have : K' = 0 := by omega
      subst this
      rfl
/-- what the row and its back to front make of anything differ by the last of it alone -/
theorem tail_le {n : Nat} {f : Nat → Rat} (hf : Sp0 n f) {B : Rat} (b0 : 0 ≤ B) (hB : ∀ z k, SS (cf f z) k ≤ B * SS z k) (y : Nat → Rat) (N : Nat) : SS (cf (rv n f) y) N ≤ SS (cf f y) N + B * (SS y N - SS y (N - n)) := by
  have ez : ∀ g : Nat → Rat, SS (cf g y) N = SS (cf g (tr N y)) N := fun g => ss_congr N fun i hi => cf_congr (fun _ _ => rfl) fun k hk => by
    unfold tr
    rw [if_pos (by omega)]
  rw [ez f, ez (rv n f)]
  have h1 : SS (cf (rv n f) (tr N y)) N ≤ SS (cf (rv n f) (tr N y)) (N + n) := ss_mono _ (by omega)
  rw [← ss_rv hf N y (N + n) (Nat.le_refl _)] at h1
  let z2 : Nat → Rat := fun m => if N - n ≤ m ∧ m < N then y m else 0
  have h2 := ss_tail (z := cf f (tr N y)) (w := cf f z2) (n := N) (fun m hm => by
    refine sm_congr _ fun i hi => ?_
    by_cases hin : i ≤ n
    · have : tr N y (m - i) = z2 (m - i) := by
        show (if m - i < N then y (m - i) else 0) = if N - n ≤ m - i ∧ m - i < N then y (m - i) else 0
        by_cases hlt : m - i < N
        · rw [if_pos hlt, if_pos ⟨by omega, hlt⟩]
        · rw [if_neg hlt, if_neg fun h => hlt h.2]
      rw [this]
    · rw [hf i (by omega)]
      grind) n
  have h3 := hB z2 (N + n)
  have h4 := ss0 (cf f z2) N
  have h5 : SS z2 (N + n) = SS y N - SS y (N - n) := by
    have e1 := ss_tail (z := z2) (w := fun _ => 0) (n := N) (fun m hm => if_neg fun h => absurd h.2 (by omega)) n
    have e0 : ∀ k, SS (fun _ => 0) k = 0 := fun k => sm_zero k fun i _ => by grind
    rw [e0, e0] at e1
    have e2 : SS z2 (N - n) = 0 := sm_zero _ fun i hi => by
      have : z2 i = 0 := if_neg fun h => absurd h.1 (by omega)
      rw [this]
      grind
    have e3 : SS z2 N - SS z2 (N - n) = SS y N - SS y (N - n) := by
      have key : ∀ k, N - n + k ≤ N → SS z2 (N - n + k) - SS z2 (N - n) = SS y (N - n + k) - SS y (N - n) := by
        intro k
        induction k with
        | zero => intro _; rw [Nat.add_zero]; grind
        | succ k ih =>
          intro hk
          have h := ih (by omega)
          rw [← Nat.add_assoc, ss_succ, ss_succ]
          have : z2 (N - n + k) = y (N - n + k) := if_pos ⟨by omega, by omega⟩
          rw [this]
          grind
      have := key (N - (N - n)) (by omega)
      rwa [show N - n + (N - (N - n)) = N by omega] at this
    grind
  rw [h5] at h3
  grind
/-- going on so that nothing comes any more -/
theorem go_on {f : Nat → Rat} (h0 : f 0 ≠ 0) (y : Nat → Rat) (N : Nat) : ∀ k, ∃ z : Nat → Rat, (∀ m, m < N → z m = y m) ∧ ∀ m, N ≤ m → m < N + k → cf f z m = 0
  | 0 => ⟨y, fun _ _ => rfl, fun m h1 h2 => absurd h2 (by omega)⟩
  | k + 1 => by
    obtain ⟨z, e1, e2⟩ := go_on h0 y N k
    refine ⟨fun m => if m = N + k then z m - cf f z m / f 0 else z m, fun m hm => ?_, fun m h1 h2 => ?_⟩
    · show (if m = N + k then _ else z m) = _
      rw [if_neg (by omega)]
      exact e1 m hm
    · by_cases hm : m = N + k
      · subst hm
        have key : ∀ w : Nat → Rat, cf f w (N + k) = f 0 * w (N + k) + sm (fun i => f (i + 1) * w (N + k - (i + 1))) (N + k) := fun w => by
          unfold cf
          rw [sm_front]
          rfl
        have k1 := key z
        rw [key]
        have e3 : sm (fun i => f (i + 1) * (if N + k - (i + 1) = N + k then z (N + k - (i + 1)) - cf f z (N + k - (i + 1)) / f 0 else z (N + k - (i + 1)))) (N + k) = sm (fun i => f (i + 1) * z (N + k - (i + 1))) (N + k) := sm_congr _ fun i hi => by
          rw [if_neg (by omega)]
        rw [e3, if_pos rfl]
        grind
      · rw [← e2 m h1 (by omega)]
        refine cf_congr (fun _ _ => rfl) fun i hi => ?_
        show (if i = N + k then _ else z i) = _
        rw [if_neg (by omega)]
theorem arch {a b : Rat} (hb : 0 < b) (h : ∀ j : Nat, (j : Rat) * b ≤ a) : False := by
  have h1 := h ((a / b).ceil.toNat + 1)
  have h2 : a / b ≤ ((a / b).ceil : Rat) := Rat.le_ceil
  have h3 : ((a / b).ceil : Rat) ≤ (((a / b).ceil.toNat : Nat) : Rat) := by
    have : (a / b).ceil ≤ (((a / b).ceil.toNat : Nat) : Int) := Int.self_le_toNat _
    exact_mod_cast this
  have h4 : a / b * b = a := by grind
  have h5 := Rat.mul_le_mul_of_nonneg_right (Rat.le_trans h2 h3) (Rat.le_of_lt hb)
  push_cast at h1
  grind
/-- a row that divides well lets no more through back to front -/
theorem good_pass {n : Nat} {p : List Rat} (hp : p.length = n + 1) (g : Good (at0 p)) (y : Nat → Rat) (N : Nat) : SS (cf (rv n (at0 p)) y) N ≤ SS (cf (at0 p) y) N := by
  refine Classical.byContradiction fun hn => ?_
  have h0 := g.head
  obtain ⟨C, c0, hC⟩ := g
  obtain ⟨B, b0, hB⟩ := fir p
  have hsp : Sp0 n (at0 p) := fun i hi => at0_out (by omega)
  generalize at0 p = f at *
  have hd : 0 < SS (cf (rv n f) y) N - SS (cf f y) N := by grind
  refine arch (a := B * (C * SS (cf f y) N)) hd fun j => ?_
  obtain ⟨z, e1, e2⟩ := go_on h0 y N (j * n)
  have eq : ∀ g : Nat → Rat, SS (cf g z) N = SS (cf g y) N := fun g => ss_congr N fun i hi => cf_congr (fun _ _ => rfl) fun k hk => e1 k (by omega)
  have flat : ∀ k, k ≤ j * n → SS (cf f z) (N + k) = SS (cf f y) N := by
    intro k
    induction k with
    | zero => intro _; exact eq f
    | succ k ih =>
      intro hk
      rw [← Nat.add_assoc, ss_succ, ih (by omega), e2 (N + k) (by omega) (by omega)]
      grind
  have step : ∀ i, i ≤ j → (i : Rat) * (SS (cf (rv n f) y) N - SS (cf f y) N) ≤ B * SS z (N + i * n) := by
    intro i
    induction i with
    | zero =>
      intro _
      have := Rat.mul_nonneg b0 (ss0 z (N + 0 * n))
      have e : ((0 : Nat) : Rat) = 0 := rfl
      rw [e]
      grind
    | succ i ih =>
      intro hi
      have h1 := ih (by omega)
      have hle : (i + 1) * n ≤ j * n := Nat.mul_le_mul_right _ hi
      have h2 := tail_le hsp b0 hB z (N + (i + 1) * n)
      rw [flat _ hle] at h2
      have h3 : SS (cf (rv n f) y) N ≤ SS (cf (rv n f) z) (N + (i + 1) * n) := by
        rw [← eq]
        exact ss_mono _ (by omega)
      have e : N + (i + 1) * n - n = N + i * n := by
        rw [Nat.add_mul, Nat.one_mul]
        omega
      rw [e] at h2
      push_cast
      grind
  have h1 := step j (Nat.le_refl _)
  have h2 := hC z (N + j * n)
  rw [flat _ (Nat.le_refl _)] at h2
  have h3 := mul_le b0 h2
  grind
theorem sq2 {x u a w : Rat} (h : u = 1 * x + a * w) : x * x ≤ 2 * (u * u) + 2 * a * a * (w * w) := by
  obtain rfl : x = u - a * w := by grind
  have := sq0 (u + a * w)
  grind
/-- its last number is smaller than its first one -/
theorem good_last {n : Nat} {p : List Rat} (hp : p.length = n + 2) (g : Good (at0 p)) : at0 p (n + 1) * at0 p (n + 1) < at0 p 0 * at0 p 0 := by
  refine Classical.byContradiction fun hn => ?_
  have h0 := g.head
  have hle : at0 p 0 * at0 p 0 ≤ at0 p (n + 1) * at0 p (n + 1) := by grind
  have hpos : 0 < at0 p (n + 1) * at0 p (n + 1) := by
    have := sq_pos h0
    grind
  obtain ⟨C, c0, hC⟩ := g
  have ha : 0 ≤ 4 * C * (at0 p (n + 1) * at0 p (n + 1)) := Rat.mul_nonneg (by grind) (Rat.le_of_lt hpos)
  obtain ⟨t, t0, t1, ht⟩ : ∃ t : Rat, 0 < t ∧ t ≤ 1 ∧ 4 * C * (at0 p (n + 1) * at0 p (n + 1)) * (t * t) ≤ 1 := by
    generalize 4 * C * (at0 p (n + 1) * at0 p (n + 1)) = a at ha
    have h1 : 0 < 1 + a := by grind
    have i0 : 0 < 1 / (1 + a) := by
      have := Rat.inv_pos.mpr h1
      grind
    have i1 : (1 + a) * (1 / (1 + a)) = 1 := by grind
    generalize 1 / (1 + a) = t at *
    have hat : 0 ≤ a * t := Rat.mul_nonneg ha (Rat.le_of_lt i0)
    have t1 : t ≤ 1 := by grind
    refine ⟨t, i0, t1, ?_⟩
    have := mul_le hat t1
    grind
  let p' := p.set (n + 1) (at0 p (n + 1) * (1 + t))
  have e' : ∀ i, at0 p' i = 1 * at0 p i + (at0 p (n + 1) * t) * (if i = n + 1 then 1 else 0) := fun i => by
    show at0 (p.set (n + 1) _) i = _
    by_cases hi : i = n + 1
    · subst hi
      rw [if_pos rfl]
      have : at0 (p.set (n + 1) (at0 p (n + 1) * (1 + t))) (n + 1) = at0 p (n + 1) * (1 + t) := at0_some (List.getElem?_set_self (by omega))
      rw [this]
      grind
    · rw [if_neg hi]
      have : at0 (p.set (n + 1) (at0 p (n + 1) * (1 + t))) i = at0 p i := by
        unfold at0
        simp only [List.getD_eq_getElem?_getD]
        rw [List.getElem?_set_ne (by omega)]
      rw [this]
      grind
  have one_le : ∀ k y N, SS (cf (fun i => if i = k then 1 else 0) y) N ≤ SS y N := by
    intro k
    induction k with
    | zero =>
      intro y N
      have : SS (cf (fun i => if i = 0 then 1 else 0) y) N = SS y N := ss_congr N fun i _ => by
        rw [← cf_dl y i]
        exact cf_congr (fun j _ => by cases j <;> rfl) fun _ _ => rfl
      rw [this]
      exact Rat.le_refl
    | succ k ih =>
      intro y N
      have : SS (cf (fun i => if i = k + 1 then 1 else 0) y) N = SS (sh (cf (fun i => if i = k then 1 else 0) y)) N := ss_congr N fun i _ => by
        rw [← cf_sh]
        refine cf_congr (fun j _ => ?_) fun _ _ => rfl
        cases j with
        | zero => rfl
        | succ j =>
          show (if j + 1 = k + 1 then (1 : Rat) else 0) = if j = k then 1 else 0
          by_cases h : j = k
          · rw [if_pos h, if_pos (by omega)]
          · rw [if_neg h, if_neg (by omega)]
      rw [this]
      exact Rat.le_trans (ss_sh_le _ _) (ih y N)
  have g' : Good (at0 p') := by
    refine ⟨4 * C, by grind, fun y N => ?_⟩
    have h1 := hC y N
    have h2 := ss_le (z := cf (at0 p) y) (x := cf (at0 p') y) (w := cf (fun i => if i = n + 1 then 1 else 0) y) (a := 2) (b := 2 * (at0 p (n + 1) * t) * (at0 p (n + 1) * t)) (fun m => by
      exact sq2 (cf_lin (e := at0 p') (m := m) y e')) N
    have h3 := one_le (n + 1) y N
    have k0 : 0 ≤ 2 * (at0 p (n + 1) * t) * (at0 p (n + 1) * t) := by
      have := sq0 (at0 p (n + 1) * t)
      grind
    have h4 := mul_le k0 h3
    have h5 := mul_le c0 (Rat.le_trans h2 (show 2 * SS (cf (at0 p') y) N + 2 * (at0 p (n + 1) * t) * (at0 p (n + 1) * t) * SS (cf (fun i => if i = n + 1 then 1 else 0) y) N ≤ 2 * SS (cf (at0 p') y) N + 2 * (at0 p (n + 1) * t) * (at0 p (n + 1) * t) * SS y N by grind))
    have h6 := Rat.mul_le_mul_of_nonneg_right ht (ss0 y N)
    have h7 : C * (2 * (at0 p (n + 1) * t) * (at0 p (n + 1) * t) * SS y N) * 2 = 4 * C * (at0 p (n + 1) * at0 p (n + 1)) * (t * t) * SS y N := by grind
    grind
  have hl : p'.length = n + 1 + 1 := by
    show (p.set _ _).length = _
    rw [List.length_set]
    omega
  have h1 := good_pass (n := n + 1) hl g' dl 1
  have e1 : ∀ f : Nat → Rat, SS (cf f dl) 1 = f 0 * f 0 := fun f => by
    show (0 : Rat) + cf f dl 0 * cf f dl 0 = _
    rw [cf_dlR]
    grind
  rw [e1, e1] at h1
  have e2 : rv (n + 1) (at0 p') 0 = at0 p (n + 1) * (1 + t) := by
    unfold rv
    rw [if_pos (by omega), Nat.sub_zero, e', if_pos rfl]
    grind
  have e3 : at0 p' 0 = at0 p 0 := by
    rw [e', if_neg (by omega)]
    grind
  rw [e2, e3] at h1
  have h2 := Rat.mul_pos hpos t0
  have h3 := Rat.mul_pos h2 t0
  grind
/-! one bend less -/
theorem cf_nx {n : Nat} {l : List Rat} (hl : l.length = n + 2) (y : Nat → Rat) (m : Nat) : cf (at0 (nx l)) y m = at0 l 0 * cf (at0 l) y m + (-at0 l (n + 1)) * cf (rv (n + 1) (at0 l)) y m := by
  refine cf_lin y fun i => ?_
  unfold rv
  by_cases h : i < n + 1
  · rw [at0_nx (by omega), hl, if_pos (by omega), show n + 2 - 1 = n + 1 by omega]
    grind
  · rw [at0_out (by rw [nx_len]; omega)]
    by_cases h2 : i = n + 1
    · subst h2
      rw [if_pos (by omega), Nat.sub_self]
      grind
    · rw [if_neg (by omega), at0_out (l := l) (i := i) (by omega)]
      grind
theorem cf_nxR {n : Nat} {l : List Rat} (hl : l.length = n + 2) (y : Nat → Rat) (m : Nat) : sh (cf (rv n (at0 (nx l))) y) m = at0 l 0 * cf (rv (n + 1) (at0 l)) y m + (-at0 l (n + 1)) * cf (at0 l) y m := by
  rw [← cf_sh]
  refine cf_lin y fun i => ?_
  unfold rv
  cases i with
  | zero =>
    rw [if_pos (by omega), Nat.sub_zero]
    show (0 : Rat) = _
    grind
  | succ i =>
    show (if i ≤ n then at0 (nx l) (n - i) else 0) = _
    by_cases h : i ≤ n
    · rw [if_pos h, if_pos (by omega), at0_nx (by omega), hl, show n + 2 - 1 = n + 1 by omega, show n + 1 - (n - i) = i + 1 by omega, show n + 1 - (i + 1) = n - i by omega]
      grind
    · rw [if_neg h, if_neg (by omega), at0_out (l := l) (i := i + 1) (by omega)]
      grind
theorem size_of (k : Rat) (h : k * k < 1) : ∃ a : Rat, 0 ≤ a ∧ a < 1 ∧ (k = a ∨ k = -a) := by
  have key : ∀ a : Rat, 0 ≤ a → a * a < 1 → a < 1 := fun a h1 h2 => Classical.byContradiction fun z => by
    have : 1 ≤ a := by grind
    have := mul_le h1 this
    grind
  rcases (by grind : k ≤ 0 ∨ 0 ≤ k) with z | z
  · exact ⟨-k, by grind, key _ (by grind) (by grind), .inr (by grind)⟩
  · exact ⟨k, z, key _ z h, .inl rfl⟩
theorem mix {a k p v : Rat} (h0 : 0 ≤ a) (h1 : a < 1) (hk : k = a ∨ k = -a) : (p + k * v) * (p + k * v) ≤ 1 / (1 - a) * (p * p) + a * (v * v) := by
  have hp : 0 < 1 - a := by grind
  have hi : 0 < 1 / (1 - a) := by
    have := Rat.inv_pos.mpr hp
    grind
  have he : (1 - a) * (1 / (1 - a)) = 1 := by grind
  generalize 1 / (1 - a) = c at *
  have hac : 0 ≤ a * c := Rat.mul_nonneg h0 (Rat.le_of_lt hi)
  rcases hk with rfl | rfl
  · have := Rat.mul_nonneg hac (sq0 (p - (1 - k) * v))
    have e : c * (p * p) + k * (v * v) - (p + k * v) * (p + k * v) = k * c * ((p - (1 - k) * v) * (p - (1 - k) * v)) := by grind
    rw [← e] at this
    grind
  · have := Rat.mul_nonneg hac (sq0 (p + (1 - a) * v))
    have e : c * (p * p) + a * (v * v) - (p + -a * v) * (p + -a * v) = a * c * ((p + (1 - a) * v) * (p + (1 - a) * v)) := by grind
    rw [← e] at this
    grind
theorem mixS {a k s : Rat} {u p v : Nat → Rat} (h0 : 0 ≤ a) (h1 : a < 1) (hk : k = a ∨ k = -a) (N : Nat) (hu : ∀ m, u m = s * p m + k * v m) (hv : SS v N ≤ SS u N) : SS u N ≤ 1 / (1 - a) * (1 / (1 - a)) * (s * s) * SS p N := by
  have hp : 0 < 1 - a := by grind
  have hi : 0 < 1 / (1 - a) := by
    have := Rat.inv_pos.mpr hp
    grind
  have he : (1 - a) * (1 / (1 - a)) = 1 := by grind
  have h2 := ss_le (z := u) (x := p) (w := v) (a := 1 / (1 - a) * (s * s)) (b := a) (fun m => by
    have := mix (p := s * p m) (v := v m) h0 h1 hk
    rw [hu m]
    grind) N
  have h3 := mul_le h0 hv
  generalize 1 / (1 - a) = c at *
  have h4 := mul_le (Rat.le_of_lt hi) (show (1 - a) * SS u N ≤ c * (s * s) * SS p N by grind)
  have e4 : c * ((1 - a) * SS u N) = SS u N := by grind
  rw [e4] at h4
  grind
theorem quo_lt {x f : Rat} (h0 : f ≠ 0) (hb : x * x < f * f) : (x / f) * (x / f) < 1 := by
  refine Classical.byContradiction fun z => ?_
  obtain ⟨k, rfl⟩ : ∃ k, x = k * f := ⟨x / f, by grind⟩
  have e : k * f / f = k := by grind
  rw [e] at z
  have h2 := sq_pos h0
  have h3 := mul_le (Rat.le_of_lt h2) (show 1 ≤ k * k by grind)
  grind
theorem good_nx {n : Nat} {l : List Rat} (hl : l.length = n + 2) (g : Good (at0 l)) : Good (at0 (nx l)) := by
  have h0 := g.head
  have hb := good_last hl g
  have pass := good_pass (n := n + 1) (by omega) g
  obtain ⟨C, c0, hC⟩ := g
  have hk : (at0 l (n + 1) / at0 l 0) * (at0 l (n + 1) / at0 l 0) < 1 := quo_lt h0 hb
  obtain ⟨a, a0, a1, ha⟩ := size_of _ hk
  refine ⟨C * (1 / (1 - a) * (1 / (1 - a)) * (1 / at0 l 0 * (1 / at0 l 0))), Rat.mul_nonneg c0 (Rat.mul_nonneg (sq0 _) (sq0 _)), fun y N => ?_⟩
  have h1 := mixS (u := cf (at0 l) y) (p := cf (at0 (nx l)) y) (v := cf (rv (n + 1) (at0 l)) y) (s := 1 / at0 l 0) a0 a1 ha N (fun m => by
    rw [cf_nx hl]
    grind) (pass y N)
  have h2 := mul_le c0 h1
  have h3 := hC y N
  grind
theorem good_up {n : Nat} {l : List Rat} (hl : l.length = n + 2) (h0 : at0 l 0 ≠ 0) (hb : at0 l (n + 1) * at0 l (n + 1) < at0 l 0 * at0 l 0) (g : Good (at0 (nx l))) : Good (at0 l) := by
  have pass := good_pass (n := n) (by rw [nx_len]; omega) g
  obtain ⟨C, c0, hC⟩ := g
  have hk : (at0 l (n + 1) / at0 l 0) * (at0 l (n + 1) / at0 l 0) < 1 := quo_lt h0 hb
  have hk2 : (-(at0 l (n + 1) / at0 l 0)) * (-(at0 l (n + 1) / at0 l 0)) < 1 := by grind
  obtain ⟨a, a0, a1, ha⟩ := size_of _ hk2
  have hm : at0 l (n + 1) / at0 l 0 * at0 l 0 = at0 l (n + 1) := by grind
  have hm2 : 1 / at0 l 0 * at0 l 0 = 1 := by grind
  refine ⟨C * (1 / (1 - a) * (1 / (1 - a)) * (((at0 l 0 * at0 l 0 - at0 l (n + 1) * at0 l (n + 1)) * (1 / at0 l 0)) * ((at0 l 0 * at0 l 0 - at0 l (n + 1) * at0 l (n + 1)) * (1 / at0 l 0)))), Rat.mul_nonneg c0 (Rat.mul_nonneg (sq0 _) (sq0 _)), fun y N => ?_⟩
  have h1 := mixS (u := cf (at0 (nx l)) y) (p := cf (at0 l) y) (v := sh (cf (rv n (at0 (nx l))) y)) (s := (at0 l 0 * at0 l 0 - at0 l (n + 1) * at0 l (n + 1)) * (1 / at0 l 0)) a0 a1 ha N (fun m => by
    rw [cf_nx hl, cf_nxR hl]
    grind) (Rat.le_trans (ss_sh_le _ _) (pass y N))
  have h2 := mul_le c0 h1
  have h3 := hC y N
  grind
theorem good_one {l : List Rat} (hl : l.length = 1) (h0 : at0 l 0 ≠ 0) : Good (at0 l) := by
  match l, hl with
  | [c], _ =>
    have hc : c ≠ 0 := h0
    refine ⟨1 / c * (1 / c), sq0 _, fun y N => ?_⟩
    have : SS y N ≤ (1 / c * (1 / c)) * SS (cf (at0 [c]) y) N + 0 * SS y N := ss_le (fun m => by
      have e : cf (at0 [c]) y m = c * y m := by
        rw [cf_cons]
        have : sh (cf (at0 []) y) m = 0 := by
          cases m with
          | zero => rfl
          | succ m => exact cf_nil y m
        rw [this]
        grind
      have e2 : y m = 1 / c * cf (at0 [c]) y m := by rw [e]; grind
      rw [e2, e2.symm]
      have : 1 / c * (1 / c) * (cf (at0 [c]) y m * cf (at0 [c]) y m) = y m * y m := by
        rw [e2]
        have : cf (at0 [c]) (fun _ => 0) 0 = cf (at0 [c]) (fun _ => 0) 0 := rfl
        rw [← e2]
        grind
      grind) N
    grind
/-- a row has bends exactly if it divides well -/
theorem fb_good : ∀ (n : Nat) (l : List Rat), l.length = n + 1 → at0 l 0 ≠ 0 → ((fb n l).isSome = true ↔ Good (at0 l))
  | 0, l, hl, h0 => ⟨fun _ => good_one hl h0, fun _ => rfl⟩
  | n + 1, l, hl, h0 => by
    have e : l.length - 1 = n + 1 := by omega
    rw [fb_succ, e]
    by_cases hc : at0 l 0 * at0 l 0 ≤ at0 l (n + 1) * at0 l (n + 1)
    · rw [if_pos hc]
      constructor
      · intro h
        cases h
      · intro g
        have := good_last hl g
        grind
    · rw [if_neg hc, Option.isSome_map]
      have hb : at0 l (n + 1) * at0 l (n + 1) < at0 l 0 * at0 l 0 := by grind
      have h1 : at0 (nx l) 0 ≠ 0 := by
        rw [at0_nx (by omega), e, Nat.sub_zero]
        grind
      rw [fb_good n (nx l) (by rw [nx_len]; omega) h1]
      exact ⟨good_up hl h0 hb, good_nx hl⟩
end Vx
namespace Vx
theorem good_two (x : Rat) : Good (at0 [1, x]) ↔ x * x < 1 := by
  rw [← fb_good 1 [1, x] rfl (by decide : (1 : Rat) ≠ 0), fb_succ]
  have e1 : at0 [1, x] 0 = 1 := rfl
  have e2 : at0 [1, x] ([1, x].length - 1) = x := rfl
  rw [e1, e2]
  by_cases h : (1 : Rat) * 1 ≤ x * x
  · rw [if_pos h]
    exact ⟨fun z => (by cases z), fun z => (by grind)⟩
  · rw [if_neg h]
    exact ⟨fun _ => (by grind), fun _ => rfl⟩
theorem good_three {t c : Rat} (hc : c * c ≤ 1) : Good (at0 [1, -2 * (t * c), t * t]) ↔ t * t < 1 := by
  have hs : 0 ≤ t * t := sq0 t
  have hm : (-2 * (t * c)) * (-2 * (t * c)) ≤ 4 * (t * t) := by
    have := mul_le hs hc
    grind
  generalize -2 * (t * c) = m at *
  generalize t * t = s at *
  rw [← fb_good 2 [1, m, s] rfl (by decide : (1 : Rat) ≠ 0), fb_succ]
  have e1 : at0 [1, m, s] 0 = 1 := rfl
  have e2 : at0 [1, m, s] ([1, m, s].length - 1) = s := rfl
  rw [e1, e2]
  by_cases h : (1 : Rat) * 1 ≤ s * s
  · rw [if_pos h]
    refine ⟨fun z => (by cases z), fun z => ?_⟩
    have := mul_le hs (show s ≤ 1 by grind)
    grind
  · rw [if_neg h, Option.isSome_map]
    have h1 : s < 1 := by
      refine Classical.byContradiction fun z => ?_
      have := mul_le hs (show 1 ≤ s by grind)
      grind
    refine ⟨fun _ => h1, fun _ => ?_⟩
    rw [fb_succ]
    have e3 : at0 (nx [1, m, s]) 0 = 1 * 1 - s * s := rfl
    have e4 : at0 (nx [1, m, s]) ((nx [1, m, s]).length - 1) = 1 * m - s * m := rfl
    rw [e3, e4, if_neg]
    · rfl
    · intro z
      have p1 : 0 < 1 - s := by grind
      have p2 := Rat.mul_pos p1 p1
      have p3 : m * m < (1 + s) * (1 + s) := by grind
      have p4 := Rat.mul_lt_mul_of_pos_left p3 p2
      grind
theorem not_good_delay : ¬ Good (at0 [0, 1]) := fun g => g.head rfl
theorem inv_small {z : Rat} (h0 : z ≠ 0) : (-1 / z) * (-1 / z) < 1 ↔ z.den < z.num.natAbs := by
  have hd := z.den_pos
  have hn : z.num ≠ 0 := fun e => h0 (Rat.num_eq_zero.mp e)
  have ek : z = (z.num : Rat) / ((z.den : Int) : Rat) := by
    rw [← Rat.divInt_eq_div]
    exact (fr_self z).symm
  have h1 : (z.num : Rat) ≠ 0 := by exact_mod_cast hn
  have h2 : ((z.den : Int) : Rat) ≠ 0 := by exact_mod_cast (show (z.den : Int) ≠ 0 by omega)
  have e : ∀ x : Int, x * x = ((x.natAbs * x.natAbs : Nat) : Int) := fun x => Int.natAbs_mul_self.symm
  have key : ∀ z n d : Rat, n ≠ 0 → d ≠ 0 → z = n / d → ((-1 / z) * (-1 / z) < 1 ↔ d * d < n * n) := by
    intro z n d a b c
    have e1 : -1 / z = -(d / n) := by
      subst c
      grind
    rw [e1]
    obtain ⟨q, rfl⟩ : ∃ q, d = q * n := ⟨d / n, by grind⟩
    have e2 : q * n / n = q := by grind
    rw [e2]
    have p := sq_pos a
    constructor
    · intro h
      have := Rat.mul_lt_mul_of_pos_left (show q * q < 1 by grind) p
      grind
    · intro h
      refine Classical.byContradiction fun w => ?_
      have := mul_le (Rat.le_of_lt p) (show 1 ≤ q * q by grind)
      grind
  rw [key _ _ _ h1 h2 ek]
  have h3 : (((z.den : Int) : Rat) * ((z.den : Int) : Rat) < (z.num : Rat) * (z.num : Rat)) ↔ ((z.den : Int) * (z.den : Int) < z.num * z.num) := by
    constructor
    · intro h
      exact_mod_cast h
    · intro h
      exact_mod_cast h
  rw [h3, e z.num, e z.den, Int.natAbs_natCast]
  constructor
  · intro h
    refine Classical.byContradiction fun w => ?_
    have := Nat.mul_le_mul (Nat.le_of_not_lt w) (Nat.le_of_not_lt w)
    omega
  · intro h
    have := Nat.mul_lt_mul'' h h
    omega
theorem sq_small {t : Rat} : t * t < 1 ↔ t.num.natAbs < t.den := ⟨small_of_sq, small_sq⟩
theorem cd_one (c : Rat) {b : Nat} (h : Qz b c) : Cd b b [c] := by
  refine ⟨c.den, c.den_pos, Nat.le_of_lt h.2, fun d hd => ⟨c.num, ?_, Nat.le_of_lt h.1⟩⟩
  rw [List.mem_singleton.mp hd]
  have e : c = (c.num : Rat) / ((c.den : Int) : Rat) := by
    rw [← Rat.divInt_eq_div]
    exact (fr_self c).symm
  have h2 : ((c.den : Int) : Rat) ≠ 0 := by have := c.den_nz; exact_mod_cast (show (c.den : Int) ≠ 0 by omega)
  have key : ∀ c n d : Rat, d ≠ 0 → c = n / d → c * d = n := by
    intro c n d a b
    grind
  have := key _ _ _ h2 e
  push_cast at this
  exact this
/-- 1 - d / z -/
theorem cd_zero {z : Rat} (h0 : z ≠ 0) (h : Qz 4 z) : Cd 9 10 [1, -1 / z] := by
  have hn : z.num ≠ 0 := fun e => h0 (Rat.num_eq_zero.mp e)
  have b1 := h.1
  have b2 := h.2
  have ek : z = (z.num : Rat) / ((z.den : Int) : Rat) := by
    rw [← Rat.divInt_eq_div]
    exact (fr_self z).symm
  have h1 : (z.num : Rat) ≠ 0 := by exact_mod_cast hn
  have h2 : ((z.den : Int) : Rat) ≠ 0 := by have := z.den_nz; exact_mod_cast (show (z.den : Int) ≠ 0 by omega)
  have key : ∀ z n d : Rat, n ≠ 0 → d ≠ 0 → z = n / d → -1 / z * n = -d ∧ -1 / z * (-n) = d := by
    intro z n d a b c
    subst c
    constructor <;> grind
  obtain ⟨k1, k2⟩ := key _ _ _ h1 h2 ek
  refine ⟨z.num.natAbs, by omega, by omega, fun c hc => ?_⟩
  have ha : ((z.num.natAbs : Nat) : Rat) = (z.num : Rat) ∨ ((z.num.natAbs : Nat) : Rat) = -(z.num : Rat) := by
    rcases Int.natAbs_eq z.num with e | e
    · left
      have : ((z.num.natAbs : Nat) : Int) = z.num := e.symm
      exact_mod_cast this
    · right
      have : ((z.num.natAbs : Nat) : Int) = -z.num := by omega
      exact_mod_cast this
  rcases List.mem_cons.mp hc with rfl | hc
  · exact ⟨(z.num.natAbs : Int), by push_cast; grind, by omega⟩
  · rw [List.mem_singleton.mp hc]
    rcases ha with e | e
    · refine ⟨-(z.den : Int), ?_, by omega⟩
      rw [e, k1]
      push_cast
      rfl
    · refine ⟨(z.den : Int), ?_, by omega⟩
      rw [e, k2]
theorem cd_pair {n m k : Int} (hn : 0 < n ∧ n ≤ 11) (hm : 0 < m ∧ m ≤ 10) (hk : -6 ≤ k ∧ k ≤ 6) {t c : Rat} (ht : t = Rat.divInt n m) (hc : c = Rat.divInt k 6) : Cd 9 10 [1, -2 * (t * c), t * t] ∧ c * c ≤ 1 ∧ t ≠ 0 := by
  rw [Rat.divInt_eq_div] at ht hc
  have hmr : (m : Rat) ≠ 0 := by exact_mod_cast (show m ≠ 0 by omega)
  have hnr : (n : Rat) ≠ 0 := by exact_mod_cast (show n ≠ 0 by omega)
  have e6 : ((6 : Int) : Rat) = 6 := rfl
  rw [e6] at hc
  have t1 : t * (m : Rat) = (n : Rat) := by grind
  have c1 : c * 6 = (k : Rat) := by grind
  have bm : m * m ≤ 100 := by
    have := Int.mul_le_mul hm.2 hm.2 (by omega) (by omega)
    omega
  have bp : 0 < m * m := Int.mul_pos hm.1 hm.1
  have bn : n * n ≤ 121 := by
    have := Int.mul_le_mul hn.2 hn.2 (by omega) (by omega)
    omega
  have bnp : 0 < n * n := Int.mul_pos hn.1 hn.1
  have bnm : (n * m).natAbs ≤ 110 := by
    rw [Int.natAbs_mul]
    exact Nat.mul_le_mul (show n.natAbs ≤ 11 by omega) (show m.natAbs ≤ 10 by omega)
  have bnk : (n * m * k).natAbs ≤ 660 := by
    rw [Int.natAbs_mul]
    exact Nat.mul_le_mul bnm (show k.natAbs ≤ 6 by omega)
  refine ⟨⟨(3 * (m * m)).toNat, by omega, by omega, fun x hx => ?_⟩, ?_, fun z => ?_⟩
  · have hD : (((3 * (m * m)).toNat : Nat) : Rat) = 3 * ((m : Rat) * (m : Rat)) := by
      have : (((3 * (m * m)).toNat : Nat) : Int) = 3 * (m * m) := by omega
      have h2 : (((3 * (m * m)).toNat : Nat) : Rat) = ((3 * (m * m) : Int) : Rat) := by exact_mod_cast this
      rw [h2]
      push_cast
      rfl
    rw [hD]
    simp only [List.mem_cons, List.not_mem_nil, or_false] at hx
    rcases hx with rfl | rfl | rfl
    · exact ⟨3 * (m * m), by push_cast; grind, by omega⟩
    · exact ⟨-(n * m * k), by push_cast; grind, by omega⟩
    · exact ⟨3 * (n * n), by push_cast; grind, by omega⟩
  · have hk2 : k * k ≤ 36 := by
      have e : k * k = ((k.natAbs * k.natAbs : Nat) : Int) := Int.natAbs_mul_self.symm
      have := Nat.mul_le_mul (show k.natAbs ≤ 6 by omega) (show k.natAbs ≤ 6 by omega)
      omega
    have h3 : (k : Rat) * (k : Rat) ≤ 36 := by exact_mod_cast hk2
    have key : ∀ c k : Rat, c * 6 = k → k * k ≤ 36 → c * c ≤ 1 := by
      intro c k a b
      subst a
      grind
    exact key _ _ c1 h3
  · rw [z] at t1
    grind
end Vx
namespace Vx
theorem tr_at {l : List Rat} (ht : Tr l) (hn : l ≠ []) : at0 l (l.length - 1) ≠ 0 := by
  have hp := List.length_pos_iff.mpr hn
  have := ht hn
  rw [List.getLast_eq_getElem] at this
  have e := at0_get (l := l) (i := l.length - 1) (by omega)
  rw [List.getElem?_eq_getElem (by omega)] at e
  rw [← Option.some.inj e]
  exact this
theorem fb_lead {l bs : List Rat} (ht : Tr l) (hn : l ≠ []) (h : fb (l.length - 1) l = some bs) : at0 l 0 ≠ 0 := fun z => by
  have hp := List.length_pos_iff.mpr hn
  have hlast := tr_at ht hn
  by_cases h1 : l.length = 1
  · rw [h1] at hlast
    exact hlast z
  · obtain ⟨n, hn'⟩ : ∃ n, l.length - 1 = n + 1 := ⟨l.length - 2, by omega⟩
    rw [hn', fb_succ, z, if_pos] at h
    · cases h
    · have := sq0 (at0 l (l.length - 1))
      grind
theorem fb_iff {r : List Rat} (t : Tr r) (n : r ≠ []) : (fb (r.length - 1) r).isSome = true ↔ Good (at0 r) := by
  have hp := List.length_pos_iff.mpr n
  by_cases h0 : at0 r 0 = 0
  · constructor
    · intro h
      obtain ⟨bs, e⟩ := Option.isSome_iff_exists.mp h
      exact absurd h0 (fb_lead t n e)
    · intro g
      exact absurd h0 g.head
  · exact fb_good _ _ (by omega) h0
theorem fb_calm {r : List Rat} (t : Tr r) (n : r ≠ []) {c : Bool} (g : Good (at0 r) ↔ c = true) : (fb (r.length - 1) r).isSome = c := by
  have h := (fb_iff t n).trans g
  cases c with
  | true => exact h.mpr rfl
  | false =>
    cases e : (fb (r.length - 1) r).isSome with
    | false => rfl
    | true => exact (h.mp e).symm ▸ rfl
theorem fb_small : ∀ (n : Nat) (l bs : List Rat), l.length = n + 1 → at0 l 0 ≠ 0 → fb n l = some bs → ∀ k ∈ bs, k * k < 1
  | 0, _, bs, _, _, h, k, hk => by
    unfold fb at h
    cases h
    cases hk
  | n + 1, l, bs, hl, h0, h, k, hk => by
    rw [fb_succ] at h
    split at h
    · cases h
    · rename_i hc
      obtain ⟨cs, h1, rfl⟩ := Option.map_eq_some_iff.mp h
      rcases List.mem_cons.mp hk with rfl | h'
      · exact quo_lt h0 (by grind)
      · refine fb_small n (nx l) cs (by rw [nx_len]; omega) ?_ h1 k h'
        rw [at0_nx (by omega), Nat.sub_zero]
        grind
theorem good_later {r : List Rat} {k : Nat} : ¬ Good (at0 (List.replicate (k + 1) 0 ++ r)) := fun g => g.head rfl
theorem cd_pad {a b k : Nat} {l : List Rat} (h : Cd a b l) : Cd a b (List.replicate k 0 ++ l) := by
  obtain ⟨D, h0, h1, h2⟩ := h
  refine ⟨D, h0, h1, fun c hc => ?_⟩
  rcases List.mem_append.mp hc with z | z
  · rw [(List.mem_replicate.mp z).2]
    exact ⟨0, by push_cast; grind, Nat.zero_le _⟩
  · exact h2 c z
theorem tr_pre {k : Nat} {qs : List Rat} (h : Tr qs) (hn : qs ≠ []) : Tr (List.replicate k 0 ++ qs) := fun hz => by
  rw [List.getLast_append_right hn]
  exact h hn
end Vx
namespace Vx
def strR (c : Rat) (l : List Rat) : List Rat := (List.range l.length).map fun i => at0 l i * c ^ i
theorem str_len (c : Rat) (l : List Rat) : (strR c l).length = l.length := by
  unfold strR
  rw [List.length_map, List.length_range]
theorem at0_str (c : Rat) (l : List Rat) (i : Nat) : at0 (strR c l) i = at0 l i * c ^ i := by
  by_cases h : i < l.length
  · exact at0_map h
  · rw [at0_out (by rw [str_len]; omega), at0_out (by omega)]
    grind
theorem str_cons (c d : Rat) (l : List Rat) : strR c (d :: l) = d :: smul c (strR c l) := by
  refine ext0 (by rw [str_len, List.length_cons, List.length_cons, smul_len, str_len]) fun i _ => ?_
  rw [at0_str]
  cases i with
  | zero =>
    show d * c ^ 0 = d
    rw [Rat.pow_zero]
    grind
  | succ i =>
    show at0 l i * c ^ (i + 1) = at0 (smul c (strR c l)) i
    rw [at0_smul, at0_str, Rat.pow_succ]
    grind
theorem ev_str (c : Rat) : ∀ (l : List Rat) (z : Rat), ev (strR c l) z = ev l (c * z)
  | [], z => rfl
  | d :: l, z => by
    rw [str_cons]
    show d + z * ev (smul c (strR c l)) z = d + c * z * ev l (c * z)
    have e : ev (smul c (strR c l)) z = c * ev (strR c l) z := ev_scale _ _ _
    rw [e, ev_str c l z]
    grind
theorem str_one (l : List Rat) : strR 1 l = l := ext0 (str_len _ _) fun i _ => by
  rw [at0_str]
  have : ∀ n : Nat, (1 : Rat) ^ n = 1 := fun n => by
    induction n with
    | zero => exact Rat.pow_zero _
    | succ n ih => rw [Rat.pow_succ, ih]; grind
  rw [this]
  grind
theorem pow_ne {c : Rat} (h : c ≠ 0) : ∀ n : Nat, c ^ n ≠ 0
  | 0 => by rw [Rat.pow_zero]; decide
  | n + 1 => by
    rw [Rat.pow_succ]
    intro e
    rcases Rat.mul_eq_zero.mp e with z | z
    · exact pow_ne h n z
    · exact h z
theorem tr_of_at {l : List Rat} (h : l ≠ [] → at0 l (l.length - 1) ≠ 0) : Tr l := fun hn => by
  have hp := List.length_pos_iff.mpr hn
  have e := at0_get (l := l) (i := l.length - 1) (by omega)
  rw [List.getLast_eq_getElem]
  rw [List.getElem?_eq_getElem (by omega)] at e
  rw [Option.some.inj e]
  exact h hn
theorem str_ne {c : Rat} {l : List Rat} (h : l ≠ []) : strR c l ≠ [] := fun z => by
  have := str_len c l
  rw [z] at this
  exact h (List.eq_nil_of_length_eq_zero this.symm)
theorem tr_str {c : Rat} {l : List Rat} (hc : c ≠ 0) (ht : Tr l) : Tr (strR c l) := tr_of_at fun hn => by
  rw [str_len, at0_str]
  have hl : l ≠ [] := fun z => hn (by rw [z]; rfl)
  intro e
  rcases Rat.mul_eq_zero.mp e with z | z
  · exact tr_at ht hl z
  · exact pow_ne hc _ z
theorem good_str {c : Rat} {p q r : List Rat} (h : ∀ z, ev r z = ev p z * ev q z) : Good (at0 (strR c r)) ↔ (Good (at0 (strR c p)) ∧ Good (at0 (strR c q))) := good_prod fun z => by
  rw [ev_str, ev_str, ev_str, h]
theorem pow_int (n : Int) (i : Nat) : ((n ^ i : Int) : Rat) = (n : Rat) ^ i := by push_cast; rfl
theorem natAbs_pow_le {n : Int} {e : Nat} (h : n.natAbs ≤ 2 ^ e) : ∀ i : Nat, (n ^ i).natAbs ≤ 2 ^ (e * i)
  | 0 => by rw [Int.pow_zero]; exact Nat.one_le_two_pow
  | i + 1 => by
    rw [Int.pow_succ, Int.natAbs_mul, Nat.mul_add, Nat.mul_one, Nat.pow_add]
    exact Nat.mul_le_mul (natAbs_pow_le h i) h
theorem cd_str {a b e n : Nat} {c : Rat} {l : List Rat} (h : Cd a b l) (hc : Qz e c) (hl : l.length ≤ n + 1) : Cd (a + e * n) (b + e * n) (strR c l) := by
  obtain ⟨D, h0, h1, h2⟩ := h
  have hd := c.den_pos
  have hde : c.den ≤ 2 ^ e := Nat.le_of_lt hc.2
  have hne : c.num.natAbs ≤ 2 ^ e := Nat.le_of_lt hc.1
  have pd : c.den ^ n ≤ 2 ^ (e * n) := by
    rw [Nat.pow_mul]
    exact Nat.pow_le_pow_left hde n
  have ek : c * (c.den : Rat) = (c.num : Rat) := by
    have e : c = (c.num : Rat) / ((c.den : Int) : Rat) := by
      rw [← Rat.divInt_eq_div]
      exact (fr_self c).symm
    have h3 : ((c.den : Int) : Rat) ≠ 0 := by exact_mod_cast (show (c.den : Int) ≠ 0 by omega)
    have key : ∀ c n d : Rat, d ≠ 0 → c = n / d → c * d = n := by
      intro c n d a b
      grind
    have := key _ _ _ h3 e
    push_cast at this
    exact this
  have pk : ∀ i : Nat, c ^ i * (c.den : Rat) ^ i = (c.num : Rat) ^ i := fun i => by
    induction i with
    | zero => rw [Rat.pow_zero, Rat.pow_zero, Rat.pow_zero]; grind
    | succ i ih =>
      rw [Rat.pow_succ, Rat.pow_succ, Rat.pow_succ, ← ih, ← ek]
      grind
  refine ⟨D * c.den ^ n, Nat.mul_pos h0 (Nat.pow_pos hd), ?_, fun x hx => ?_⟩
  · rw [Nat.pow_add]
    exact Nat.mul_le_mul h1 pd
  · unfold strR at hx
    obtain ⟨i, hi, rfl⟩ := List.mem_map.mp hx
    have hin : i ≤ n := by
      have := List.mem_range.mp hi
      omega
    obtain ⟨m, e1, g1⟩ := h2 _ (at0_mem (List.mem_range.mp hi))
    refine ⟨m * (c.num ^ i * (c.den : Int) ^ (n - i)), ?_, ?_⟩
    · push_cast
      have s1 : (c.den : Rat) ^ n = (c.den : Rat) ^ i * (c.den : Rat) ^ (n - i) := by
        rw [← rpow_add, show i + (n - i) = n by omega]
      have q1 : ((c.num ^ i : Int) : Rat) = (c.num : Rat) ^ i := pow_int _ _
      have q2 : (((c.den : Int) ^ (n - i) : Int) : Rat) = (c.den : Rat) ^ (n - i) := by
        rw [pow_int]
        push_cast
        rfl
      have q3 : ((c.den ^ n : Nat) : Rat) = (c.den : Rat) ^ n := by
        have : ((c.den ^ n : Nat) : Int) = (c.den : Int) ^ n := by push_cast; rfl
        have h4 : ((c.den ^ n : Nat) : Rat) = (((c.den : Int) ^ n : Int) : Rat) := by
          rw [← this]
          push_cast
          rfl
        rw [h4, pow_int]
        push_cast
        rfl
      try rw [q3]
      try rw [q1]
      try rw [q2]
      rw [s1, ← pk i, ← e1]
      grind
    · rw [Int.natAbs_mul, Int.natAbs_mul, Nat.pow_add]
      refine Nat.mul_le_mul g1 ?_
      have p1 := natAbs_pow_le hne i
      have p2 : ((c.den : Int) ^ (n - i)).natAbs ≤ 2 ^ (e * (n - i)) := natAbs_pow_le (n := (c.den : Int)) (by rw [Int.natAbs_natCast]; exact hde) (n - i)
      have s2 : e * n = e * i + e * (n - i) := by
        rw [← Nat.mul_add, show i + (n - i) = n by omega]
      rw [s2, Nat.pow_add]
      exact Nat.mul_le_mul p1 p2
theorem qz_pow {e : Nat} {c : Rat} (h : Qz e c) (h0 : 0 < e) : ∀ i : Nat, Qz (e * i + 1) (c ^ i)
  | 0 => by rw [Rat.pow_zero]; exact qz1 (by omega)
  | i + 1 => by
    rw [Rat.pow_succ]
    refine (Qz.mul (qz_pow h h0 i) h).mono ?_
    rw [Nat.mul_add, Nat.mul_one]
    omega
/-! factors -/
theorem str_two (c x : Rat) : strR c [1, x] = [1, x * c] := by
  rw [str_cons, str_cons]
  show [1, c * x] = _
  rw [Rat.mul_comm]
theorem str_three (c m s : Rat) : strR c [1, m, s] = [1, m * c, s * c * c] := by
  rw [str_cons, str_cons, str_cons]
  show [1, c * m, c * (c * s)] = _
  rw [Rat.mul_comm c m, show c * (c * s) = s * c * c by grind]
theorem sq_lt_one {u : Rat} (h : 0 < u) : u * u < 1 ↔ u < 1 := by
  constructor
  · intro z
    refine Classical.byContradiction fun w => ?_
    have := mul_le (Rat.le_of_lt h) (show 1 ≤ u by grind)
    grind
  · intro z
    have := Rat.mul_lt_mul_of_pos_left z h
    grind
theorem div_lt_one {a s : Rat} (hs : 0 < s) : a / s < 1 ↔ a < s := by
  obtain ⟨q, rfl⟩ : ∃ q, a = q * s := ⟨a / s, by grind⟩
  have e : q * s / s = q := by grind
  rw [e]
  constructor
  · intro z
    have := Rat.mul_lt_mul_of_pos_left z hs
    grind
  · intro z
    refine Classical.byContradiction fun w => ?_
    have := mul_le (Rat.le_of_lt hs) (show 1 ≤ q by grind)
    grind
/-- 1 - d / z, of the size s of z -/
theorem quick_two {z s y : Rat} (hy : 0 < y) (hs : 0 < s) (e : z = s ∨ z = -s) : Good (at0 (strR y [1, -1 / z])) ↔ y < s := by
  rw [str_two, good_two]
  have hp : 0 < y / s := by
    have := Rat.mul_pos hy (Rat.inv_pos.mpr hs)
    grind
  have e2 : (-1 / z * y) * (-1 / z * y) = (y / s) * (y / s) := by
    rcases e with rfl | rfl
    · grind
    · have : s ≠ 0 := by grind
      grind
  rw [e2, sq_lt_one hp, div_lt_one hs]
theorem quick_three {t c y : Rat} (hy : 0 < y) (ht : 0 < t) (hc : c * c ≤ 1) : Good (at0 (strR y [1, -2 * (t * c), t * t])) ↔ y < 1 / t := by
  rw [str_three, show -2 * (t * c) * y = -2 * (t * y * c) by grind, show t * t * y * y = t * y * (t * y) by grind, good_three hc, sq_lt_one (Rat.mul_pos ht hy)]
  have h1 : 0 < 1 / t := by
    have := Rat.inv_pos.mpr ht
    grind
  rw [← div_lt_one h1, show y / (1 / t) = t * y by grind]
theorem cd_pair4 {n m k : Int} (hn : 0 < n ∧ n ≤ 11) (hm : 0 < m ∧ m ≤ 10) (hk : -4 ≤ k ∧ k ≤ 4) {t c : Rat} (ht : t = Rat.divInt n m) (hc : c = Rat.divInt k 4) : Cd 9 10 [1, -2 * (t * c), t * t] ∧ c * c ≤ 1 ∧ 0 < t := by
  rw [Rat.divInt_eq_div] at ht hc
  have hmr : (m : Rat) ≠ 0 := by exact_mod_cast (show m ≠ 0 by omega)
  have hmp : (0 : Rat) < (m : Rat) := by exact_mod_cast hm.1
  have hnp : (0 : Rat) < (n : Rat) := by exact_mod_cast hn.1
  have e6 : ((4 : Int) : Rat) = 4 := rfl
  rw [e6] at hc
  have t1 : t * (m : Rat) = (n : Rat) := by grind
  have c1 : c * 4 = (k : Rat) := by grind
  have bm : m * m ≤ 100 := by
    have := Int.mul_le_mul hm.2 hm.2 (by omega) (by omega)
    omega
  have bp : 0 < m * m := Int.mul_pos hm.1 hm.1
  have bn : n * n ≤ 121 := by
    have := Int.mul_le_mul hn.2 hn.2 (by omega) (by omega)
    omega
  have bnp : 0 < n * n := Int.mul_pos hn.1 hn.1
  have bnm : (n * m).natAbs ≤ 110 := by
    rw [Int.natAbs_mul]
    exact Nat.mul_le_mul (show n.natAbs ≤ 11 by omega) (show m.natAbs ≤ 10 by omega)
  have bnk : (n * m * k).natAbs ≤ 440 := by
    rw [Int.natAbs_mul]
    exact Nat.mul_le_mul bnm (show k.natAbs ≤ 4 by omega)
  refine ⟨⟨(2 * (m * m)).toNat, by omega, by omega, fun x hx => ?_⟩, ?_, ?_⟩
  · have hD : (((2 * (m * m)).toNat : Nat) : Rat) = 2 * ((m : Rat) * (m : Rat)) := by
      have : (((2 * (m * m)).toNat : Nat) : Int) = 2 * (m * m) := by omega
      have h2 : (((2 * (m * m)).toNat : Nat) : Rat) = ((2 * (m * m) : Int) : Rat) := by exact_mod_cast this
      rw [h2]
      push_cast
      rfl
    rw [hD]
    simp only [List.mem_cons, List.not_mem_nil, or_false] at hx
    rcases hx with rfl | rfl | rfl
    · exact ⟨2 * (m * m), by push_cast; grind, by omega⟩
    · exact ⟨-(n * m * k), by push_cast; grind, by omega⟩
    · exact ⟨2 * (n * n), by push_cast; grind, by omega⟩
  · have hk2 : k * k ≤ 16 := by
      have e : k * k = ((k.natAbs * k.natAbs : Nat) : Int) := Int.natAbs_mul_self.symm
      have := Nat.mul_le_mul (show k.natAbs ≤ 4 by omega) (show k.natAbs ≤ 4 by omega)
      omega
    have h3 : (k : Rat) * (k : Rat) ≤ 16 := by exact_mod_cast hk2
    have key : ∀ c k : Rat, c * 4 = k → k * k ≤ 16 → c * c ≤ 1 := by
      intro c k a b
      subst a
      grind
    exact key _ _ c1 h3
  · have := Rat.mul_pos hnp (Rat.inv_pos.mpr hmp)
    rw [ht]
    grind
end Vx
namespace Vx
def iv : List Int → Int → Int
  | [], _ => 0
  | c :: l, x => c + x * iv l x
theorem iv_ev : ∀ (l : List Int) (x : Int), ((iv l x : Int) : Rat) = ev (toR l) (x : Rat)
  | [], _ => rfl
  | c :: l, x => by
    show ((c + x * iv l x : Int) : Rat) = (c : Rat) + (x : Rat) * ev (toR l) x
    rw [← iv_ev l x]
    push_cast
    rfl
theorem at0_toR (l : List Int) (i : Nat) : at0 (toR l) i = ((l.getD i 0 : Int) : Rat) := toR_at l i
/-! primes -/
def IsP (p : Nat) : Prop := 1 < p ∧ ∀ q : Nat, q ∣ p → q = 1 ∨ q = p
theorem isP_ex : ∀ (n d : Nat), d ≤ n → 1 < d → ∃ p, IsP p ∧ p ∣ d
  | 0, d, h, h1 => absurd h1 (by omega)
  | n + 1, d, h, h1 => by
    by_cases hp : IsP d
    · exact ⟨d, hp, Nat.dvd_refl d⟩
    · have : ∃ q, q ∣ d ∧ q ≠ 1 ∧ q ≠ d := Classical.byContradiction fun z => hp ⟨h1, fun q hq => Classical.byContradiction fun w => z ⟨q, hq, fun e => w (.inl e), fun e => w (.inr e)⟩⟩
      obtain ⟨q, hq, q1, q2⟩ := this
      have hle := Nat.le_of_dvd (by omega) hq
      have q0 : q ≠ 0 := fun e => by
        rw [e, Nat.zero_dvd] at hq
        omega
      obtain ⟨p, hp, hd⟩ := isP_ex n q (by omega) (by omega)
      exact ⟨p, hp, Nat.dvd_trans hd hq⟩
theorem isP_mul {p : Nat} (hp : IsP p) {x y : Int} (h : (p : Int) ∣ x * y) : (p : Int) ∣ x ∨ (p : Int) ∣ y := by
  have h1 : p ∣ x.natAbs * y.natAbs := by
    rw [← Int.natAbs_mul]
    exact Int.ofNat_dvd_left.mp h
  rcases hp.2 _ (Nat.gcd_dvd_left p x.natAbs) with e | e
  · right
    have c : Nat.Coprime p x.natAbs := e
    exact Int.ofNat_dvd_left.mpr (c.dvd_of_dvd_mul_left h1)
  · left
    refine Int.ofNat_dvd_left.mpr ?_
    rw [← e]
    exact Nat.gcd_dvd_right _ _
/-! products, number by number -/
theorem cf_of_ev {a b r : List Rat} (h : ∀ z, ev r z = ev a z * ev b z) (k : Nat) : at0 r k = cf (at0 a) (at0 b) k := by
  have e : at0 r k = at0 (mulP a b) k := ev_ats (fun z => by rw [ev_mulP, h]) k
  rw [e, ← cf_dlR (at0 (mulP a b)) k, cf_mulP]
  exact cf_congr (fun _ _ => rfl) fun i _ => cf_dlR _ _
/-- all numbers are so much times a whole one -/
def Dv (p : Int) (f : Nat → Rat) : Prop := ∀ k, ∃ n : Int, f k = (p : Rat) * (n : Rat)
theorem dv_nil (p : Int) : Dv p (at0 (toR [])) := fun k => ⟨0, by
  rw [at0_out (l := toR []) (Nat.zero_le _)]
  push_cast
  grind⟩
theorem dv_cons {p x : Int} {a : List Int} (hx : p ∣ x) (ha : Dv p (at0 (toR a))) : Dv p (at0 (toR (x :: a))) := fun k => by
  cases k with
  | zero =>
    obtain ⟨n, rfl⟩ := hx
    exact ⟨n, by show ((p * n : Int) : Rat) = _; push_cast; rfl⟩
  | succ k => exact ha k
theorem dv_step {p x : Int} {a : List Int} {g : Nat → Rat} (hg : ∀ k, ∃ n : Int, g k = (n : Rat)) (hx : p ∣ x) (h : Dv p (cf (at0 (toR (x :: a))) g)) : Dv p (cf (at0 (toR a)) g) := fun k => by
  obtain ⟨n, hn⟩ := h (k + 1)
  have e : cf (at0 (toR (x :: a))) g (k + 1) = (x : Rat) * g (k + 1) + cf (at0 (toR a)) g k := cf_cons _ _ _ _
  obtain ⟨m, hm⟩ := hg (k + 1)
  obtain ⟨y, rfl⟩ := hx
  refine ⟨n - y * m, ?_⟩
  rw [e, hm] at hn
  push_cast at hn ⊢
  grind
theorem whole_at (b : List Int) : ∀ k, ∃ n : Int, at0 (toR b) k = (n : Rat) := fun k => ⟨_, at0_toR b k⟩
theorem dv_prime {p : Nat} (hp : IsP p) : ∀ (n : Nat) (a b : List Int), a.length + b.length ≤ n → Dv p (cf (at0 (toR a)) (at0 (toR b))) → Dv p (at0 (toR a)) ∨ Dv p (at0 (toR b))
  | _, [], b, _, _ => .inl (dv_nil _)
  | _, x :: a, [], _, _ => .inr (dv_nil _)
  | 0, x :: a, y :: b, hl, _ => absurd hl (by rw [List.length_cons]; omega)
  | n + 1, x :: a, y :: b, hl, h => by
    have h0 : (p : Int) ∣ x * y := by
      obtain ⟨m, hm⟩ := h 0
      have e : cf (at0 (toR (x :: a))) (at0 (toR (y :: b))) 0 = (x : Rat) * (y : Rat) + 0 := cf_cons _ _ _ _
      rw [e] at hm
      refine ⟨m, ?_⟩
      have : ((x * y : Int) : Rat) = ((p * m : Int) : Rat) := by
        push_cast at hm ⊢
        grind
      exact_mod_cast this
    rw [List.length_cons, List.length_cons] at hl
    rcases isP_mul hp h0 with hx | hy
    · rcases dv_prime hp n a (y :: b) (by rw [List.length_cons]; omega) (dv_step (whole_at _) hx h) with z | z
      · exact .inl (dv_cons hx z)
      · exact .inr z
    · have h' : Dv p (cf (at0 (toR (y :: b))) (at0 (toR (x :: a)))) := fun k => by
        rw [cf_comm]
        exact h k
      have h2 := dv_step (whole_at (x :: a)) hy h'
      have h3 : Dv p (cf (at0 (toR (x :: a))) (at0 (toR b))) := fun k => by
        rw [cf_comm]
        exact h2 k
      rcases dv_prime hp n (x :: a) b (by rw [List.length_cons]; omega) h3 with z | z
      · exact .inl z
      · exact .inr (dv_cons hy z)
def Prim (a : List Int) : Prop := ∀ g : Nat, (∀ n ∈ a, (g : Int) ∣ n) → g = 1
theorem dv_mem {p : Int} {a : List Int} (h : Dv p (at0 (toR a))) : ∀ n ∈ a, p ∣ n := fun n hn => by
  obtain ⟨i, hi⟩ := List.mem_iff_getElem?.mp hn
  obtain ⟨m, hm⟩ := h i
  have e : at0 (toR a) i = (n : Rat) := by
    rw [at0_toR, List.getD_eq_getElem?_getD, hi]
    rfl
  rw [e] at hm
  refine ⟨m, ?_⟩
  have : ((n : Int) : Rat) = ((p * m : Int) : Rat) := by
    push_cast
    exact hm
  exact_mod_cast this
/-- over a row without a common divisor a whole row is a whole row -/
theorem gauss : ∀ (D : Nat) {p F W0 : List Int} {w : List Rat}, Prim p → (∀ z, ev (toR F) z = ev w z * ev (toR p) z) → 0 < D → toR W0 = smul (D : Rat) w → ∃ W : List Int, toR W = w := by
  intro D
  induction D using Nat.strongRecOn with
  | _ D ih =>
    intro p F W0 w hp h hD hW
    by_cases h1 : D = 1
    · refine ⟨W0, ?_⟩
      rw [hW, h1]
      exact smul_one w
    · obtain ⟨P, hP, P', rfl⟩ := isP_ex D D (Nat.le_refl _) (by omega)
      have hP0 : 0 < P := by have := hP.1; omega
      have hP'0 : 0 < P' := Nat.pos_of_ne_zero fun e => by
        rw [e, Nat.mul_zero] at hD
        omega
      have e1 : ∀ k, cf (at0 (toR W0)) (at0 (toR p)) k = ((P * P' : Nat) : Rat) * at0 (toR F) k := fun k => by
        rw [hW]
        have e2 := cf_of_ev h k
        have e3 : cf (at0 (smul ((P * P' : Nat) : Rat) w)) (at0 (toR p)) k = ((P * P' : Nat) : Rat) * cf (at0 w) (at0 (toR p)) k + 0 * cf (at0 w) (at0 (toR p)) k := cf_lin _ fun i => by
          rw [at0_smul]
          grind
        rw [e3, ← e2]
        grind
      have hd : Dv P (cf (at0 (toR W0)) (at0 (toR p))) := fun k => by
        refine ⟨P' * F.getD k 0, ?_⟩
        rw [e1, at0_toR]
        push_cast
        grind
      rcases dv_prime hP _ W0 p (Nat.le_refl _) hd with z | z
      · have zm := dv_mem z
        refine ih P' ?_ (W0 := W0.map fun n => n / (P : Int)) hp h hP'0 ?_
        · have := Nat.mul_le_mul_right P' (show 2 ≤ P from hP.1)
          omega
        · refine ext0 (by rw [toR_len, List.length_map, smul_len]; have := congrArg List.length hW; rw [toR_len, smul_len] at this; exact this) fun i hi => ?_
          rw [toR_len, List.length_map] at hi
          have hg : (W0.map fun n => n / (P : Int)).getD i 0 = W0.getD i 0 / (P : Int) := by
            rw [List.getD_eq_getElem?_getD, List.getD_eq_getElem?_getD, List.getElem?_map, List.getElem?_eq_getElem hi]
            rfl
          have hm : (P : Int) ∣ W0.getD i 0 := by
            refine zm _ ?_
            rw [List.getD_eq_getElem?_getD, List.getElem?_eq_getElem hi]
            exact List.getElem_mem hi
          obtain ⟨y, hy⟩ := hm
          have hW2 := congrArg (fun l => at0 l i) hW
          rw [at0_toR, at0_smul, hy] at hW2
          rw [at0_toR, at0_smul, hg, hy, Int.mul_ediv_cancel_left _ (by omega)]
          have hPr : (P : Rat) ≠ 0 := by exact_mod_cast (show P ≠ 0 by omega)
          push_cast at hW2
          grind
      · have := hp P (dv_mem z)
        have := hP.1
        omega
theorem den_ex : ∀ l : List Rat, ∃ D : Nat, 0 < D ∧ ∀ c ∈ l, ∃ n : Int, c * (D : Rat) = (n : Rat)
  | [] => ⟨1, by decide, fun c h => by cases h⟩
  | c :: l => by
    obtain ⟨D, h0, h⟩ := den_ex l
    have hd := c.den_pos
    have ek : c * (c.den : Rat) = (c.num : Rat) := by
      have e : c = (c.num : Rat) / ((c.den : Int) : Rat) := by
        rw [← Rat.divInt_eq_div]
        exact (fr_self c).symm
      have h3 : ((c.den : Int) : Rat) ≠ 0 := by exact_mod_cast (show (c.den : Int) ≠ 0 by omega)
      have key : ∀ c n d : Rat, d ≠ 0 → c = n / d → c * d = n := by
        intro c n d a b
        grind
      have := key _ _ _ h3 e
      push_cast at this
      exact this
    refine ⟨c.den * D, Nat.mul_pos hd h0, fun x hx => ?_⟩
    rcases List.mem_cons.mp hx with rfl | hx
    · refine ⟨x.num * D, ?_⟩
      push_cast
      rw [← ek]
      grind
    · obtain ⟨n, hn⟩ := h x hx
      refine ⟨n * c.den, ?_⟩
      push_cast
      rw [← hn]
      grind
theorem ints_ex (l : List Rat) : ∃ (D : Nat) (ns : List Int), 0 < D ∧ toR ns = smul (D : Rat) l := by
  obtain ⟨D, h0, h⟩ := den_ex l
  have key : ∀ l : List Rat, (∀ c ∈ l, ∃ n : Int, c * (D : Rat) = (n : Rat)) → ∃ ns : List Int, toR ns = smul (D : Rat) l := by
    intro l
    induction l with
    | nil => exact fun _ => ⟨[], rfl⟩
    | cons c l ih =>
      intro h
      obtain ⟨ns, hns⟩ := ih fun d hd => h d (List.mem_cons_of_mem _ hd)
      obtain ⟨n, hn⟩ := h c List.mem_cons_self
      refine ⟨n :: ns, ?_⟩
      show (n : Rat) :: toR ns = (D : Rat) * c :: smul (D : Rat) l
      rw [hns, ← hn, Rat.mul_comm]
  obtain ⟨ns, hns⟩ := key l h
  exact ⟨D, ns, h0, hns⟩
theorem gauss' {p F : List Int} {w : List Rat} (hp : Prim p) (h : ∀ z, ev (toR F) z = ev w z * ev (toR p) z) : ∃ W : List Int, toR W = w := by
  obtain ⟨D, ns, h0, hn⟩ := ints_ex w
  exact gauss D hp h h0 hn
/-- what all numbers have in common -/
def cont : List Int → Nat
  | [] => 0
  | c :: l => Nat.gcd c.natAbs (cont l)
theorem cont_dvd : ∀ {l : List Int}, ∀ n ∈ l, ((cont l : Nat) : Int) ∣ n
  | c :: l, n, h => by
    rcases List.mem_cons.mp h with rfl | h
    · exact Int.ofNat_dvd_left.mpr (Nat.gcd_dvd_left _ _)
    · exact Int.dvd_trans (Int.ofNat_dvd.mpr (Nat.gcd_dvd_right _ _)) (cont_dvd n h)
theorem dvd_cont : ∀ {l : List Int} {g : Nat}, (∀ n ∈ l, (g : Int) ∣ n) → g ∣ cont l
  | [], g, _ => Nat.dvd_zero g
  | c :: l, g, h => Nat.dvd_gcd (Int.ofNat_dvd_left.mp (h c List.mem_cons_self)) (dvd_cont fun n hn => h n (List.mem_cons_of_mem _ hn))
/-- every row is a number times a whole one without a common divisor -/
theorem prim_ex {g : List Rat} (tg : Tr g) (ng : g ≠ []) : ∃ (G : List Int) (k : Rat), k ≠ 0 ∧ toR G = smul k g ∧ Prim G ∧ Tr (toR G) ∧ G ≠ [] := by
  obtain ⟨D, ns, h0, hn⟩ := ints_ex g
  have hD : (D : Rat) ≠ 0 := by exact_mod_cast (show D ≠ 0 by omega)
  have hlen : ns.length = g.length := by
    have := congrArg List.length hn
    rwa [toR_len, smul_len] at this
  have hp := List.length_pos_iff.mpr ng
  have hl : at0 (toR ns) (g.length - 1) ≠ 0 := by
    rw [hn, at0_smul]
    have := tr_at tg ng
    grind
  have hc : cont ns ≠ 0 := fun e => hl (by
    rw [at0_toR]
    have hm : ns.getD (g.length - 1) 0 ∈ ns := by
      rw [List.getD_eq_getElem?_getD, List.getElem?_eq_getElem (by omega)]
      exact List.getElem_mem _
    have := cont_dvd _ hm
    rw [e] at this
    have h2 : ns.getD (g.length - 1) 0 = 0 := Int.zero_dvd.mp this
    rw [h2]
    rfl)
  have hcr : ((cont ns : Nat) : Rat) ≠ 0 := by exact_mod_cast hc
  have hG : toR (ns.map fun n => n / ((cont ns : Nat) : Int)) = smul (1 / ((cont ns : Nat) : Rat)) (toR ns) := by
    refine ext0 (by rw [toR_len, List.length_map, smul_len, toR_len]) fun i hi => ?_
    rw [toR_len, List.length_map] at hi
    have hg : (ns.map fun n => n / ((cont ns : Nat) : Int)).getD i 0 = ns.getD i 0 / ((cont ns : Nat) : Int) := by
      rw [List.getD_eq_getElem?_getD, List.getD_eq_getElem?_getD, List.getElem?_map, List.getElem?_eq_getElem hi]
      rfl
    have hm : ns.getD i 0 ∈ ns := by
      rw [List.getD_eq_getElem?_getD, List.getElem?_eq_getElem hi]
      exact List.getElem_mem _
    obtain ⟨y, hy⟩ := cont_dvd _ hm
    rw [at0_toR, at0_smul, at0_toR, hg, hy, Int.mul_ediv_cancel_left _ (by omega)]
    push_cast
    grind
  have hk : (1 / ((cont ns : Nat) : Rat)) * (D : Rat) ≠ 0 := by
    have : 1 / ((cont ns : Nat) : Rat) ≠ 0 := by grind
    intro z
    rcases Rat.mul_eq_zero.mp z with z | z
    · exact this z
    · exact hD z
  have hG2 : toR (ns.map fun n => n / ((cont ns : Nat) : Int)) = smul (1 / ((cont ns : Nat) : Rat) * (D : Rat)) g := by rw [hG, hn, smul_smul]
  refine ⟨_, _, hk, hG2, fun q hq => ?_, ?_, fun z => ?_⟩
  · have h3 : ∀ n ∈ ns, ((q * cont ns : Nat) : Int) ∣ n := fun n hn => by
      obtain ⟨y, hy⟩ := cont_dvd n hn
      have h4 := hq (n / ((cont ns : Nat) : Int)) (List.mem_map.mpr ⟨n, hn, rfl⟩)
      rw [hy, Int.mul_ediv_cancel_left _ (by omega)] at h4
      obtain ⟨x, rfl⟩ := h4
      refine ⟨x, ?_⟩
      rw [hy]
      push_cast
      grind
    have h5 := Nat.le_of_dvd (by omega) (dvd_cont h3)
    have h6 : 0 < cont ns := by omega
    rcases Nat.lt_trichotomy q 1 with z | z | z
    · have : q = 0 := by omega
      subst this
      rw [Nat.zero_mul] at h3
      exfalso
      refine hc ?_
      have := dvd_cont (g := 0) h3
      exact Nat.zero_dvd.mp this
    · exact z
    · have := Nat.mul_le_mul_right (cont ns) (show 2 ≤ q by omega)
      omega
  · rw [hG2]
    exact tr_of_at fun hn2 => by
      rw [smul_len, at0_smul]
      have := tr_at tg ng
      intro e
      rcases Rat.mul_eq_zero.mp e with z | z
      · exact hk z
      · exact this z
  · have := congrArg List.length z
    rw [List.length_map, List.length_nil] at this
    omega
end Vx
namespace Vx
def ab (x : Rat) : Rat := if x < 0 then -x else x
theorem ab_nn (x : Rat) : 0 ≤ ab x := by unfold ab; split <;> grind
theorem ab_le (x : Rat) : x ≤ ab x ∧ -x ≤ ab x := by unfold ab; split <;> constructor <;> grind
theorem ab_cases (x : Rat) : ab x = x ∨ ab x = -x := by unfold ab; split <;> grind
theorem ab_mul (x y : Rat) : ab (x * y) = ab x * ab y := by
  have h1 := ab_nn (x * y)
  have h2 := Rat.mul_nonneg (ab_nn x) (ab_nn y)
  rcases ab_cases x with a | a <;> rcases ab_cases y with b | b <;> rcases ab_cases (x * y) with c | c <;> (rw [a, b] at h2 ⊢; rw [c] at h1 ⊢; try grind)
theorem ab_add (x y : Rat) : ab (x + y) ≤ ab x + ab y := by
  have h1 := ab_le x
  have h2 := ab_le y
  rcases ab_cases (x + y) with a | a <;> rw [a] <;> grind
theorem ab_neg (x : Rat) : ab (-x) = ab x := by
  have h1 := ab_nn x
  have h2 := ab_nn (-x)
  rcases ab_cases x with a | a <;> rcases ab_cases (-x) with b | b <;> rw [a] at h1 ⊢ <;> rw [b] at h2 ⊢ <;> grind
theorem ab_sq (x : Rat) : ab x * ab x = x * x := by rcases ab_cases x with a | a <;> rw [a] <;> grind
theorem sq_lt_of {x y : Rat} (h0 : 0 ≤ x) (h : x < y) : x * x < y * y := by
  have h1 := mul_le h0 (Rat.le_of_lt h)
  have h2 := Rat.mul_lt_mul_of_pos_left h (show 0 < y by grind)
  grind
/-- a row whose first number is greater than all others together has its bends -/
theorem dia : ∀ (n : Nat) (l : List Rat), l.length = n + 1 → sm (fun i => ab (at0 l (i + 1))) n < ab (at0 l 0) → (fb n l).isSome = true
  | 0, l, _, _ => rfl
  | n + 1, l, hl, h => by
    have e : l.length - 1 = n + 1 := by omega
    have hs : sm (fun i => ab (at0 l (i + 1))) (n + 1) = sm (fun i => ab (at0 l (i + 1))) n + ab (at0 l (n + 1)) := rfl
    rw [hs] at h
    have hS : 0 ≤ sm (fun i => ab (at0 l (i + 1))) n := by
      have : sm (fun _ => (0 : Rat)) n ≤ sm (fun i => ab (at0 l (i + 1))) n := sm_le n fun i _ => ab_nn _
      rw [sm_zero n fun _ _ => rfl] at this
      exact this
    have hlt : ab (at0 l (n + 1)) < ab (at0 l 0) := by grind
    have hsq := sq_lt_of (ab_nn _) hlt
    rw [ab_sq, ab_sq] at hsq
    rw [fb_succ, e, if_neg (by grind), Option.isSome_map]
    refine dia n (nx l) (by rw [nx_len]; omega) ?_
    rw [at0_nx (by omega), e, Nat.sub_zero]
    have h1 : sm (fun i => ab (at0 (nx l) (i + 1))) n ≤ sm (fun i => ab (at0 l 0) * ab (at0 l (i + 1)) + ab (at0 l (n + 1)) * ab (at0 l (n - 1 - i + 1))) n := sm_le n fun i hi => by
      rw [at0_nx (by omega), e, show n + 1 - (i + 1) = n - 1 - i + 1 by omega, ← ab_mul, ← ab_mul]
      have := ab_add (at0 l 0 * at0 l (i + 1)) (-(at0 l (n + 1) * at0 l (n - 1 - i + 1)))
      rw [ab_neg] at this
      have e2 : at0 l 0 * at0 l (i + 1) + -(at0 l (n + 1) * at0 l (n - 1 - i + 1)) = at0 l 0 * at0 l (i + 1) - at0 l (n + 1) * at0 l (n - 1 - i + 1) := by grind
      rw [e2] at this
      exact this
    rw [sm_add, sm_mul, sm_mul, sm_rev (fun i => ab (at0 l (i + 1))) n] at h1
    generalize sm (fun i => ab (at0 l (i + 1))) n = S at *
    have h2 : ab (at0 l 0 * at0 l 0 - at0 l (n + 1) * at0 l (n + 1)) = at0 l 0 * at0 l 0 - at0 l (n + 1) * at0 l (n + 1) := by
      unfold ab
      rw [if_neg (by grind)]
    rw [h2, ← ab_sq (at0 l 0), ← ab_sq (at0 l (n + 1))]
    have hp : 0 < ab (at0 l 0) + ab (at0 l (n + 1)) := by
      have := ab_nn (at0 l (n + 1))
      grind
    have h3 := Rat.mul_lt_mul_of_pos_left (show S < ab (at0 l 0) - ab (at0 l (n + 1)) by grind) hp
    grind
/-! back to front -/
theorem ev_all {p q : List Rat} (h : ∀ z, z ≠ 0 → ev p z = ev q z) (z : Rat) : ev p z = ev q z := by
  have h0 : ∀ c ∈ ladd p (q.map ((-1 : Rat) * ·)), c = 0 := fun c hc => Classical.byContradiction fun w => by
    obtain ⟨X, e, h1, h2, h3⟩ := ev_far _ ⟨c, hc, w⟩
    have h4 := h3 X Rat.le_refl
    rw [ev_ladd, ev_scale, h X (by grind)] at h4
    grind
  have := ev_zeros h0 z
  rw [ev_ladd, ev_scale] at this
  grind
theorem ev_rev : ∀ (l : List Rat) (z : Rat), l ≠ [] → z ≠ 0 → ev l.reverse z = z ^ (l.length - 1) * ev l (1 / z)
  | [], _, h, _ => absurd rfl h
  | [c], z, _, hz => by
    show c + z * 0 = z ^ 0 * (c + 1 / z * 0)
    rw [Rat.pow_zero]
    grind
  | c :: d :: l, z, _, hz => by
    rw [List.reverse_cons, ev_append, ev_rev (d :: l) z (List.cons_ne_nil _ _) hz, List.length_reverse]
    show z ^ l.length * ev (d :: l) (1 / z) + z ^ (l.length + 1) * (c + z * 0) = z ^ (l.length + 1) * (c + 1 / z * ev (d :: l) (1 / z))
    rw [Rat.pow_succ]
    generalize ev (d :: l) (1 / z) = w
    have : z * (1 / z) = 1 := by grind
    grind
theorem at0_rev {l : List Rat} {i : Nat} (h : i < l.length) : at0 l.reverse i = at0 l (l.length - 1 - i) := at0_some (by rw [List.getElem?_reverse h, at0_get (by omega)])
theorem rev_prod {a b r : List Rat} (ta : Tr a) (tb : Tr b) (tr : Tr r) (na : a ≠ []) (nb : b ≠ []) (h : ∀ z, ev r z = ev a z * ev b z) (z : Rat) : ev r.reverse z = ev a.reverse z * ev b.reverse z := by
  rw [← ev_mulP]
  refine ev_all (fun z hz => ?_) z
  have nr := prod_ne ta tb na nb tr h
  have hl : r.length + 1 = a.length + b.length := by
    rw [prod_is ta tb tr h na nb]
    exact (pmul_shape a b na nb).1
  have pa := List.length_pos_iff.mpr na
  have pb := List.length_pos_iff.mpr nb
  rw [ev_mulP, ev_rev r z nr hz, ev_rev a z na hz, ev_rev b z nb hz, h, show r.length - 1 = a.length - 1 + (b.length - 1) by omega, rpow_add]
  grind
/-! the worth of a row of bends -/
theorem up_fb : ∀ (n : Nat) (l bs : List Rat), l.length = n + 1 → at0 l 0 = 1 → fb n l = some bs → upR bs = l ∧ (∀ k ∈ bs, k * k < 1) ∧ bs.length = n
  | 0, l, bs, hl, h1, h => by
    unfold fb at h
    cases h
    match l, hl, h1 with
    | [c], _, h1 =>
      have : c = 1 := h1
      subst this
      exact ⟨rfl, fun k hk => (by cases hk), rfl⟩
  | n + 1, l, bs, hl, h1, h => by
    rw [fb_dn h1 hl] at h
    split at h
    · cases h
    · rename_i hk
      obtain ⟨cs, h2, rfl⟩ := Option.map_eq_some_iff.mp h
      have hk' : at0 l (l.length - 1) * at0 l (l.length - 1) < 1 := by grind
      obtain ⟨e1, e2, e3⟩ := up_fb n (dn l) cs (by rw [dn_len]; omega) (dn_head h1 (by omega) hk') h2
      refine ⟨?_, fun k hk2 => ?_, by rw [List.length_cons, e3]⟩
      · show up _ (upR cs) = l
        rw [e1, up_dn h1 (by omega) hk']
      · rcases List.mem_cons.mp hk2 with rfl | h'
        · exact hk'
        · exact e2 k h'
theorem ev_at {p q : List Rat} (h : ∀ i, at0 p i = at0 q i) (z : Rat) : ev p z = ev q z := by
  have h0 : ∀ c ∈ ladd p (q.map ((-1 : Rat) * ·)), c = 0 := fun c hc => by
    obtain ⟨i, hi⟩ := List.mem_iff_getElem?.mp hc
    have e := at0_some hi
    rw [at0_ladd'] at e
    have e2 : at0 (q.map ((-1 : Rat) * ·)) i = -1 * at0 q i := at0_smul _ _ _
    rw [e2, h i] at e
    grind
  have := ev_zeros h0 z
  rw [ev_ladd, ev_scale] at this
  grind
theorem ev_up (k : Rat) {l : List Rat} (hn : l ≠ []) (d : Rat) : ev (up k l) d = ev l d + k * (d * ev l.reverse d) ∧ ev (up k l).reverse d = d * ev l.reverse d + k * ev l d := by
  have hp := List.length_pos_iff.mpr hn
  constructor
  · have e : ev (up k l) d = ev (ladd l (0 :: smul k l.reverse)) d := ev_at (fun i => by
      rw [at0_ladd']
      cases i with
      | zero => rw [up_head]; show _ = _ + (0 : Rat); grind
      | succ i =>
        show _ = _ + at0 (smul k l.reverse) i
        rw [at0_smul]
        by_cases hi : i < l.length
        · rw [at0_up (by omega), at0_rev hi, show l.length - (i + 1) = l.length - 1 - i by omega]
        · rw [at0_out (l := up k l) (by rw [up_len]; omega), at0_out (l := l) (by omega), at0_out (l := l.reverse) (by rw [List.length_reverse]; omega)]
          grind) d
    rw [e, ev_ladd]
    have e2 : ev (0 :: smul k l.reverse) d = 0 + d * ev (smul k l.reverse) d := rfl
    have e3 : ev (smul k l.reverse) d = k * ev l.reverse d := ev_scale _ _ _
    rw [e2, e3]
    grind
  · have e : ev (up k l).reverse d = ev (ladd (0 :: l.reverse) (smul k l)) d := ev_at (fun i => by
      rw [at0_ladd', at0_smul]
      by_cases hi : i < l.length + 1
      · rw [at0_rev (by rw [up_len]; exact hi), up_len, at0_up (by omega)]
        cases i with
        | zero =>
          rw [at0_out (l := l) (i := l.length + 1 - 1 - 0) (by omega), show l.length - (l.length + 1 - 1 - 0) = 0 by omega]
          show _ = (0 : Rat) + _
          grind
        | succ i =>
          show _ = at0 l.reverse i + _
          rw [at0_rev (by omega), show l.length + 1 - 1 - (i + 1) = l.length - 1 - i by omega, show l.length - (l.length - 1 - i) = i + 1 by omega]
      · rw [at0_out (l := (up k l).reverse) (by rw [List.length_reverse, up_len]; omega), at0_out (l := l) (by omega), at0_out (l := 0 :: l.reverse) (by rw [List.length_cons, List.length_reverse]; omega)]
        grind) d
    rw [e, ev_ladd]
    have e2 : ev (0 :: l.reverse) d = 0 + d * ev l.reverse d := rfl
    have e3 : ev (smul k l) d = k * ev l d := ev_scale _ _ _
    rw [e2, e3]
    grind
theorem upR_low {d : Rat} (d0 : 0 ≤ d) (d1 : d ≤ 1) : ∀ ks : List Rat, (∀ k ∈ ks, k * k < 1) → (1 - d) ^ ks.length ≤ ev (upR ks) d ∧ ev (upR ks).reverse d ≤ ev (upR ks) d ∧ -ev (upR ks) d ≤ ev (upR ks).reverse d ∧ 0 ≤ ev (upR ks) d
  | [], _ => by
    show (1 - d) ^ 0 ≤ 1 + d * 0 ∧ 1 + d * 0 ≤ 1 + d * 0 ∧ -(1 + d * 0) ≤ 1 + d * 0 ∧ 0 ≤ 1 + d * 0
    rw [Rat.pow_zero]
    refine ⟨?_, ?_, ?_, ?_⟩ <;> grind
  | k :: ks, h => by
    obtain ⟨h1, h2, h3, h4⟩ := upR_low d0 d1 ks fun j hj => h j (List.mem_cons_of_mem _ hj)
    have hn : upR ks ≠ [] := fun z => by
      have := upR_len ks
      rw [z] at this
      cases this
    obtain ⟨e1, e2⟩ := ev_up k hn d
    show (1 - d) ^ (ks.length + 1) ≤ ev (up k (upR ks)) d ∧ ev (up k (upR ks)).reverse d ≤ ev (up k (upR ks)) d ∧ -ev (up k (upR ks)) d ≤ ev (up k (upR ks)).reverse d ∧ 0 ≤ ev (up k (upR ks)) d
    rw [e1, e2, Rat.pow_succ]
    generalize ev (upR ks) d = a at *
    generalize ev (upR ks).reverse d = b at *
    obtain ⟨s, s0, s1, hs⟩ := size_of k (h k List.mem_cons_self)
    have k1 : -1 ≤ k ∧ k ≤ 1 := by rcases hs with e | e <;> constructor <;> grind
    have m1 := Rat.mul_nonneg (show 0 ≤ 1 - k by grind) (show 0 ≤ a - b by grind)
    have m2 := Rat.mul_nonneg (show 0 ≤ 1 + k by grind) (show 0 ≤ a - b by grind)
    have m3 := Rat.mul_nonneg (show 0 ≤ 1 - k by grind) (show 0 ≤ a + b by grind)
    have m4 := Rat.mul_nonneg (show 0 ≤ 1 + k by grind) (show 0 ≤ a + b by grind)
    have kb1 : -a ≤ k * b := by grind
    have kb2 : k * b ≤ a := by grind
    have n1 := mul_le d0 kb1
    have n2 := mul_le d0 (show b ≤ a by grind)
    have n3 := mul_le d0 (show -a ≤ b by grind)
    have n4 := Rat.mul_nonneg (show 0 ≤ 1 - d by grind) h4
    have n5 := mul_le (show 0 ≤ 1 - d by grind) h1
    have n6 := Rat.mul_nonneg (show 0 ≤ 1 - d by grind) h4
    have q1 := Rat.mul_nonneg (show 0 ≤ 1 - k by grind) (show 0 ≤ a - d * b by grind)
    have q2 := Rat.mul_nonneg (show 0 ≤ 1 + k by grind) (show 0 ≤ a + d * b by grind)
    refine ⟨?_, ?_, ?_, ?_⟩ <;> grind
/-- with bends: not less than the first number times (1 - d) to the degree -/
theorem fb_low {n : Nat} {l bs : List Rat} (hl : l.length = n + 1) (h0 : at0 l 0 ≠ 0) (h : fb n l = some bs) {d : Rat} (d0 : 0 ≤ d) (d1 : d ≤ 1) : ab (at0 l 0) * (1 - d) ^ n ≤ ab (ev l d) := by
  have hc : 1 / at0 l 0 ≠ 0 := by grind
  have h' : fb n (smul (1 / at0 l 0) l) = some bs := by rw [fb_smul _ _ hc]; exact h
  obtain ⟨e1, e2, e3⟩ := up_fb n (smul (1 / at0 l 0) l) bs (by rw [smul_len]; exact hl) (by rw [at0_smul]; grind) h'
  obtain ⟨f1, _, _, f4⟩ := upR_low d0 d1 bs e2
  rw [e1, e3] at f1
  rw [e1] at f4
  have e5 : ev (smul (1 / at0 l 0) l) d = 1 / at0 l 0 * ev l d := ev_scale _ _ _
  rw [e5] at f1 f4
  have e6 : ab (ev l d) = ab (at0 l 0) * (1 / at0 l 0 * ev l d) := by
    have : ev l d = at0 l 0 * (1 / at0 l 0 * ev l d) := by grind
    generalize 1 / at0 l 0 * ev l d = w at *
    rw [this, ab_mul]
    have : ab w = w := by
      unfold ab
      rw [if_neg (by grind)]
    rw [this]
  rw [e6]
  exact mul_le (ab_nn _) f1
theorem geo {M t : Rat} (h : t * (M + 1) = 1) : ∀ n : Nat, sm (fun i => M * t ^ (i + 1)) n = 1 - t ^ n
  | 0 => by
    rw [Rat.pow_zero]
    show (0 : Rat) = 1 - 1
    grind
  | n + 1 => by
    show sm (fun i => M * t ^ (i + 1)) n + M * t ^ (n + 1) = _
    rw [geo h n, Rat.pow_succ]
    have : t ^ n * (t * (M + 1)) = t ^ n := by rw [h]; grind
    grind
theorem pow_pos' {t : Rat} (h : 0 < t) : ∀ n : Nat, 0 < t ^ n
  | 0 => by rw [Rat.pow_zero]; decide
  | n + 1 => by
    rw [Rat.pow_succ]
    exact Rat.mul_pos (pow_pos' h n) h
theorem pow_ge {x : Rat} (h : 1 ≤ x) : ∀ n : Nat, 0 < n → x ≤ x ^ n
  | 0, hn => absurd hn (by decide)
  | 1, _ => by rw [Rat.pow_succ, Rat.pow_zero]; grind
  | n + 2, _ => by
    rw [Rat.pow_succ]
    have := pow_ge h (n + 1) (by omega)
    have h2 := mul_le (show 0 ≤ x by grind) (show 1 ≤ x ^ (n + 1) by grind)
    grind
theorem mul_pow' (x y : Rat) : ∀ n : Nat, (x * y) ^ n = x ^ n * y ^ n
  | 0 => by rw [Rat.pow_zero, Rat.pow_zero, Rat.pow_zero]; grind
  | n + 1 => by
    rw [Rat.pow_succ, Rat.pow_succ, Rat.pow_succ, mul_pow' x y n]
    grind
/-- what divides a whole row, of more than one number, is worth more than X / 2 -/
theorem far {F q : List Int} {u : List Rat} {M : Nat} {X : Int} (tF : Tr (toR F)) (nF : F ≠ []) (tq : Tr (toR q)) (hq : 2 ≤ q.length) (tu : Tr u) (h : ∀ z, ev (toR F) z = ev u z * ev (toR q) z) (hM : ∀ n ∈ F, n.natAbs ≤ M) (hX : 2 * (M : Int) + 3 ≤ X) : X < 2 * ((iv q X).natAbs : Int) := by
  have nFr : toR F ≠ [] := fun z => nF (toR_nil_iff.mp z)
  have nqr : toR q ≠ [] := fun z => by
    have := toR_nil_iff.mp z
    rw [this] at hq
    exact absurd hq (by decide)
  have nu : u ≠ [] := fun z => nFr (ev_nil_of tF h (.inl z))
  have pF := List.length_pos_iff.mpr nF
  obtain ⟨n, hn⟩ : ∃ n, F.length = n + 1 := ⟨F.length - 1, by omega⟩
  obtain ⟨m, hm⟩ : ∃ m, q.length = m + 1 := ⟨q.length - 1, by omega⟩
  have hMr : (0 : Rat) ≤ (M : Rat) := by exact_mod_cast Nat.zero_le M
  obtain ⟨t, ht⟩ : ∃ t : Rat, t = 1 / ((M : Rat) + 1) := ⟨_, rfl⟩
  have tp : 0 < t := by
    have := Rat.inv_pos.mpr (show 0 < (M : Rat) + 1 by grind)
    grind
  have tM : t * ((M : Rat) + 1) = 1 := by grind
  have tn : t ≠ 0 := by grind
  -- the row back to front has its bends
  have lP : (strR t (toR F).reverse).length = n + 1 := by rw [str_len, List.length_reverse, toR_len, hn]
  have hlast : at0 (toR F) n ≠ 0 := by
    have := tr_at tF nFr
    rw [toR_len, hn] at this
    exact this
  have whole1 : ∀ (l : List Int) (i : Nat), at0 (toR l) i ≠ 0 → 1 ≤ ab (at0 (toR l) i) := fun l i h0 => by
    rw [at0_toR] at h0 ⊢
    have h1 : l.getD i 0 ≠ 0 := fun e => h0 (by rw [e]; rfl)
    generalize l.getD i 0 = x at *
    rcases ab_cases (x : Rat) with a | a <;> rw [a]
    · have h2 := ab_nn (x : Rat)
      rw [a] at h2
      have h3 : 0 ≤ x := by exact_mod_cast h2
      exact_mod_cast (show 1 ≤ x by omega)
    · have h2 := ab_nn (x : Rat)
      rw [a] at h2
      have h3 : (0 : Rat) ≤ ((-x : Int) : Rat) := by push_cast; exact h2
      have h4 : 0 ≤ -x := by exact_mod_cast h3
      have h5 : (1 : Rat) ≤ ((-x : Int) : Rat) := by exact_mod_cast (show 1 ≤ -x by omega)
      push_cast at h5
      exact h5
  have hP0 : at0 (strR t (toR F).reverse) 0 = at0 (toR F) n := by
    rw [at0_str, Rat.pow_zero, at0_rev (by rw [toR_len, hn]; omega), toR_len, hn, show n + 1 - 1 - 0 = n by omega]
    grind
  have hsum : sm (fun i => ab (at0 (strR t (toR F).reverse) (i + 1))) n ≤ sm (fun i => (M : Rat) * t ^ (i + 1)) n := sm_le n fun i hi => by
    rw [at0_str, ab_mul, at0_rev (by rw [toR_len, hn]; omega)]
    have e1 : ab (t ^ (i + 1)) = t ^ (i + 1) := by
      unfold ab
      have := pow_pos' tp (i + 1)
      rw [if_neg (by grind)]
    rw [e1]
    refine Rat.mul_le_mul_of_nonneg_right ?_ (Rat.le_of_lt (pow_pos' tp _))
    rw [at0_toR]
    have hmem : F.getD ((toR F).length - 1 - (i + 1)) 0 ∈ F := by
      rw [List.getD_eq_getElem?_getD, List.getElem?_eq_getElem (by rw [toR_len, hn]; omega)]
      exact List.getElem_mem _
    have hb := hM _ hmem
    generalize F.getD ((toR F).length - 1 - (i + 1)) 0 = x at *
    rcases ab_cases (x : Rat) with a | a <;> rw [a]
    · exact_mod_cast (show x ≤ (M : Int) by omega)
    · have : ((-x : Int) : Rat) ≤ ((M : Int) : Rat) := by exact_mod_cast (show -x ≤ (M : Int) by omega)
      push_cast at this
      exact this
  rw [geo tM] at hsum
  have hd := dia n (strR t (toR F).reverse) lP (by
    rw [hP0]
    have := whole1 F n hlast
    have := pow_pos' tp n
    grind)
  have gP := (fb_good n _ lP (by rw [hP0]; exact hlast)).mp hd
  have hrev := rev_prod tu tq tF nu nqr h
  have gq := ((good_str (c := t) hrev).mp gP).2
  have lq : (strR t (toR q).reverse).length = m + 1 := by rw [str_len, List.length_reverse, toR_len, hm]
  have hql : at0 (toR q) m ≠ 0 := by
    have := tr_at tq nqr
    rw [toR_len, hm] at this
    exact this
  have hq0 : at0 (strR t (toR q).reverse) 0 = at0 (toR q) m := by
    rw [at0_str, Rat.pow_zero, at0_rev (by rw [toR_len, hm]; omega), toR_len, hm, show m + 1 - 1 - 0 = m by omega]
    grind
  obtain ⟨bs, hbs⟩ := Option.isSome_iff_exists.mp ((fb_good m _ lq (by rw [hq0]; exact hql)).mpr gq)
  -- the worth
  have hXr : 2 * (M : Rat) + 3 ≤ (X : Rat) := by
    have h1 : ((2 * (M : Int) + 3 : Int) : Rat) ≤ (X : Rat) := by exact_mod_cast hX
    push_cast at h1
    exact h1
  have Xp : 0 < (X : Rat) := by grind
  obtain ⟨d, hdd⟩ : ∃ d : Rat, d = ((M : Rat) + 1) / (X : Rat) := ⟨_, rfl⟩
  have dX : d * (X : Rat) = (M : Rat) + 1 := by grind
  have d0 : 0 ≤ d := by
    refine Classical.byContradiction fun z => ?_
    have := Rat.mul_lt_mul_of_pos_left (show d < 0 by grind) Xp
    grind
  have d1 : d ≤ 1 := by
    refine Classical.byContradiction fun z => ?_
    have := Rat.mul_lt_mul_of_pos_left (show 1 < d by grind) Xp
    grind
  have low := fb_low lq (by rw [hq0]; exact hql) hbs d0 d1
  rw [hq0, ev_str, show t * d = 1 / (X : Rat) by grind, ev_rev _ _ nqr (by grind), toR_len, hm, show m + 1 - 1 = m by omega, show 1 / (1 / (X : Rat)) = (X : Rat) by grind] at low
  have hiv := iv_ev q X
  rw [← hiv] at low
  have hpw : (1 / (X : Rat)) ^ m * (X : Rat) ^ m = 1 := by
    rw [← mul_pow', show 1 / (X : Rat) * (X : Rat) = 1 by grind]
    have : ∀ k : Nat, (1 : Rat) ^ k = 1 := fun k => by
      induction k with
      | zero => exact Rat.pow_zero _
      | succ k ih => rw [Rat.pow_succ, ih]; grind
    exact this m
  have hpx := pow_pos' Xp m
  rw [ab_mul] at low
  have e1 : ab ((1 / (X : Rat)) ^ m) = (1 / (X : Rat)) ^ m := by
    unfold ab
    have := pow_pos' (show 0 < 1 / (X : Rat) by have := Rat.inv_pos.mpr Xp; grind) m
    rw [if_neg (by grind)]
  rw [e1] at low
  have low2 := Rat.mul_le_mul_of_nonneg_right low (Rat.le_of_lt hpx)
  have e2 : (1 - d) ^ m * (X : Rat) ^ m = ((X : Rat) - ((M : Rat) + 1)) ^ m := by
    rw [← mul_pow', show (1 - d) * (X : Rat) = (X : Rat) - ((M : Rat) + 1) by grind]
  have hY : 1 ≤ (X : Rat) - ((M : Rat) + 1) := by grind
  have hpg := pow_ge hY m (by omega)
  have hl1 := whole1 q m hql
  generalize ((X : Rat) - ((M : Rat) + 1)) ^ m = Y at *
  have hYp : 0 ≤ Y := by grind
  have h6 := Rat.mul_le_mul_of_nonneg_right hl1 hYp
  have h7 : (X : Rat) - ((M : Rat) + 1) ≤ ab ((iv q X : Int) : Rat) := by
    have e3 : ab (at0 (toR q) m) * (1 - d) ^ m * (X : Rat) ^ m = ab (at0 (toR q) m) * Y := by
      rw [← e2]
      grind
    have e4 : (1 / (X : Rat)) ^ m * ab ((iv q X : Int) : Rat) * (X : Rat) ^ m = ab ((iv q X : Int) : Rat) := by
      have : (1 / (X : Rat)) ^ m * ab ((iv q X : Int) : Rat) * (X : Rat) ^ m = ((1 / (X : Rat)) ^ m * (X : Rat) ^ m) * ab ((iv q X : Int) : Rat) := by grind
      rw [this, hpw]
      grind
    rw [e3, e4] at low2
    grind
  have h8 : ab ((iv q X : Int) : Rat) = (((iv q X).natAbs : Int) : Rat) := by
    have hn := ab_nn ((iv q X : Int) : Rat)
    rcases ab_cases ((iv q X : Int) : Rat) with a | a
    · rw [a] at hn ⊢
      have : 0 ≤ iv q X := by exact_mod_cast hn
      exact_mod_cast (show iv q X = ((iv q X).natAbs : Int) by omega)
    · rw [a] at hn ⊢
      have h9 : (0 : Rat) ≤ ((-iv q X : Int) : Rat) := by push_cast; exact hn
      have : 0 ≤ -iv q X := by exact_mod_cast h9
      have h10 : ((-iv q X : Int) : Rat) = (((iv q X).natAbs : Int) : Rat) := by exact_mod_cast (show -iv q X = ((iv q X).natAbs : Int) by omega)
      push_cast at h10 ⊢
      exact h10
  rw [h8] at h7
  have h11 : (X : Rat) < 2 * (((iv q X).natAbs : Int) : Rat) := by grind
  exact_mod_cast h11
end Vx
namespace Vx
theorem pr_stepX {a b f s s' q u1 v1 u2 v2 : List Rat} {c S r : Rat} (P : Pr a b f s u1 v1 u2 v2 c) (hS : S ≠ 0) (hr : r ≠ 0) (hsf : s.length ≤ f.length) (hq : q.length + s.length ≤ f.length + 1)
    (h : ∀ z, ev s' z = r * (S * ev f z - ev q z * ev s z)) : ∃ u' v' c', Pr a b s s' u2 v2 u' v' c' ∧ ∀ z, ev v' z = r * (S * ev v1 z - ev q z * ev v2 z) := by
  refine ⟨ladd (u1.map ((r * S) * ·)) ((pmul q u2).map ((-r) * ·)), ladd (v1.map ((r * S) * ·)) ((pmul q v2).map ((-r) * ·)), -(r * S * c), ⟨P.es, fun z => ?_, fun z => ?_, ?_, ?_, ?_⟩, fun z => ?_⟩
  · rw [h, P.ef, P.es, ev_ladd, ev_ladd, ev_scale, ev_scale, ev_scale, ev_scale, ev_pmul, ev_pmul]
    grind
  · have := P.det z
    rw [ev_ladd, ev_ladd, ev_scale, ev_scale, ev_scale, ev_scale, ev_pmul, ev_pmul, ← this]
    grind
  · have := P.c0
    have h1 : r * S ≠ 0 := by grind
    have h2 : r * S * c ≠ 0 := by grind
    grind
  · have := P.l2
    omega
  · rw [ladd_length, List.length_map, List.length_map]
    have p1 := pmul_len_le q v2
    have p2 := P.l1
    have p3 := P.l2
    omega
  · rw [ev_ladd, ev_scale, ev_scale, ev_pmul]
    grind
theorem tr_mapX {c : Rat} {l : List Rat} (hc : c ≠ 0) (h : Tr l) : Tr (l.map (c * ·)) := fun hn => by
  have hl : l ≠ [] := fun z => hn (by rw [z]; rfl)
  rw [List.getLast_map]
  have := h hl
  grind
theorem tr_one : Tr [(1 : Rat)] := fun _ => (by decide : (1 : Rat) ≠ 0)
structure InvI (O R old new before now : List Int) (u1 v1 u2 v2 : List Rat) (c : Rat) : Prop where
  P : Pr (toR O) (toR R) (toR old) (toR new) u1 v1 u2 v2 c
  b : ∀ z, ev v1 z = ev (toR before) z
  n : ∀ z, ev v2 z = ev (toR now) z
  lt : new.length < old.length
  l2 : 2 ≤ old.length
  lR : new.length ≤ R.length
  to : Tr (toR old)
  tn : Tr (toR new)
  jp : ∀ g : Nat, (∀ n ∈ new ++ now, (g : Int) ∣ n) → g = 1
def Cop (p q : List Rat) : Prop := ∃ a b : List Rat, ∀ z, ev a z * ev p z + ev b z * ev q z = 1
theorem no_common {O R f : List Int} {u1 v1 u2 v2 : List Rat} {c : Rat} (P : Pr (toR O) (toR R) (toR f) [] u1 v1 u2 v2 c) (cop : Cop (toR O) (toR R)) (tf : Tr (toR f)) (l2 : 2 ≤ f.length) : False := by
  obtain ⟨⟨x, hx⟩, ⟨y, hy⟩, _⟩ := chain_end (an := O) (bn := R) (fs := f) (.inr ⟨O, R, u1, v1, u2, v2, c, .inl ⟨rfl, rfl⟩, P, by show 0 < _; omega, Nat.zero_le _, Nat.zero_le _⟩)
  obtain ⟨a, b, hab⟩ := cop
  have t1 : Tr [(1 : Rat)] := tr_one
  have := len_of_mul (w := [1]) t1 tf (fun z => by rw [toR_nil_iff] at z; rw [z] at l2; exact absurd l2 (by decide)) (x := ladd (pmul a x) (pmul b y)) (fun z => by
    rw [ev_one, ev_ladd, ev_pmul, ev_pmul]
    have := hab z
    rw [hx, hy] at this
    grind) (by rw [toR_len]; show 1 < _; omega)
  cases this
theorem InvI.ne {O R old new before now : List Int} {u1 v1 u2 v2 : List Rat} {c : Rat} (I : InvI O R old new before now u1 v1 u2 v2 c) (cop : Cop (toR O) (toR R)) : new ≠ [] := fun z => by
  have P := I.P
  rw [z] at P
  exact no_common P cop I.to I.l2
theorem prim_le2 {p1 p2 w1 w2 : List Int} {c : Rat} {B : Nat} (hp : ∀ g : Nat, (∀ n ∈ p1 ++ p2, (g : Int) ∣ n) → g = 1) (hc : c ≠ 0) (h1 : ∀ i, (w1.getD i 0 : Rat) = c * p1.getD i 0) (h2 : ∀ i, (w2.getD i 0 : Rat) = c * p2.getD i 0) (hw1 : ∀ n ∈ w1, n.natAbs ≤ B) (hw2 : ∀ n ∈ w2, n.natAbs ≤ B) : (∀ n ∈ p1, n.natAbs ≤ B) ∧ ∀ n ∈ p2, n.natAbs ≤ B := by
  have hd : (c.den : Int) ≠ 0 := by have := c.den_nz; omega
  have hdr : ((c.den : Int) : Rat) ≠ 0 := by exact_mod_cast hd
  have hcn : c = (c.num : Rat) / ((c.den : Int) : Rat) := by
    rw [← Rat.divInt_eq_div]
    exact (fr_self c).symm
  have key : ∀ (p w : List Int), (∀ i, (w.getD i 0 : Rat) = c * p.getD i 0) → ∀ i, w.getD i 0 * (c.den : Int) = c.num * p.getD i 0 := fun p w h i => by
    have k2 : ∀ x y n d c : Rat, d ≠ 0 → c = n / d → x = c * y → x * d = n * y := by
      intro x y n d c h1 h2 h3
      grind
    have := k2 _ _ _ _ _ hdr hcn (h i)
    exact_mod_cast this
  have hdiv : ∀ (p w : List Int), (∀ i, (w.getD i 0 : Rat) = c * p.getD i 0) → ∀ n ∈ p, (c.den : Int) ∣ n := fun p w h n hn => by
    obtain ⟨i, hi⟩ := List.mem_iff_getElem?.mp hn
    have h1 : (c.den : Int) ∣ c.num * p.getD i 0 := ⟨w.getD i 0, by rw [← key p w h, Int.mul_comm]⟩
    have h2 : c.den ∣ c.num.natAbs * (p.getD i 0).natAbs := by
      have := Int.ofNat_dvd_left.mp h1
      rwa [Int.natAbs_mul] at this
    have := Int.ofNat_dvd_left.mpr (Nat.Coprime.dvd_of_dvd_mul_left (Nat.Coprime.symm c.reduced) h2)
    rwa [List.getD_eq_getElem?_getD, hi] at this
  have hden : c.den = 1 := hp c.den fun n hn => by
    rcases List.mem_append.mp hn with hn | hn
    · exact hdiv p1 w1 h1 n hn
    · exact hdiv p2 w2 h2 n hn
  have hnum : c.num ≠ 0 := fun z => hc (Rat.num_eq_zero.mp z)
  have fin : ∀ (p w : List Int), (∀ i, (w.getD i 0 : Rat) = c * p.getD i 0) → (∀ n ∈ w, n.natAbs ≤ B) → ∀ n ∈ p, n.natAbs ≤ B := fun p w h hw n hn => by
    obtain ⟨i, hi⟩ := List.mem_iff_getElem?.mp hn
    have k := key p w h i
    rw [hden, List.getD_eq_getElem?_getD (l := p), hi] at k
    have k' : w.getD i 0 = c.num * n := by
      have : w.getD i 0 * ((1 : Nat) : Int) = c.num * n := k
      push_cast at this
      omega
    have b : (w.getD i 0).natAbs ≤ B := by
      by_cases hiw : i < w.length
      · exact hw _ (List.mem_of_getElem? (i := i) (by rw [List.getD_eq_getElem?_getD, List.getElem?_eq_getElem hiw]; rfl))
      · rw [List.getD_eq_getElem?_getD, List.getElem?_eq_none (by omega)]
        exact Nat.zero_le _
    rw [k', Int.natAbs_mul] at b
    exact Nat.le_trans (Nat.le_mul_of_pos_left _ (by omega)) b
  exact ⟨fin p1 w1 h1 hw1, fin p2 w2 h2 hw2⟩
theorem InvI.bits {O R old new before now : List Int} {u1 v1 u2 v2 : List Rat} {c : Rat} {α l N : Nat} (I : InvI O R old new before now u1 v1 u2 v2 c) (cop : Cop (toR O) (toR R)) (tO : Tr (toR O)) (hRO : R.length < O.length) (zO : ∀ n ∈ O, Bz α n) (zR : ∀ n ∈ R, Bz α n) (hN : O.length + R.length ≤ N) (hl : N ≤ 2 ^ l) :
    (∀ n ∈ new, Bz (bChain l α N) n) ∧ ∀ n ∈ now, Bz (bChain l α N) n := by
  have hne := I.ne cop
  have lt := I.lt
  have lR := I.lR
  have p1 := I.P.l1
  rw [toR_len, toR_len] at p1
  obtain ⟨w, u, v, t, ht0, hw, hu, hv, lu, lv, bw, bu, bv⟩ := pr_small I.P tO (fun z => by rw [z] at hRO; exact absurd hRO (Nat.not_lt_zero _)) I.tn (fun z => hne (toR_nil_iff.mp z)) (by rw [toR_len, toR_len]; exact lt) (by rw [toR_len]; omega) (by rw [toR_len]; exact lR) (by rw [toR_len]; omega) zO zR (Nat.le_trans hN hl)
  have hb := prim_le2 (p1 := new) (p2 := now) (w1 := w) (w2 := v) (c := t) I.jp ht0 (fun i => by
    have e : at0 (toR w) i = at0 (smul t (toR new)) i := by rw [hw]
    rwa [toR_at, at0_smul, toR_at] at e) (fun i => by
    have e : at0 (toR v) i = at0 (smul t (toR now)) i := ev_ats (fun z => by rw [hv, ev_smul, I.n]) i
    rwa [toR_at, at0_smul, toR_at] at e) bw bv
  have up : ∀ n : Int, n.natAbs ≤ 2 ^ (l + α + (l + α) * (O.length + R.length)) → Bz (bChain l α N) n := fun n h => by
    have h1 : Bz (l + α + (l + α) * (O.length + R.length) + 1) n := by
      unfold Bz
      rw [Nat.pow_succ]
      have := Nat.two_pow_pos (l + α + (l + α) * (O.length + R.length))
      omega
    refine h1.mono ?_
    unfold bChain
    have := Nat.mul_le_mul_left (l + α) hN
    omega
  exact ⟨fun n hn => up n (hb.1 n hn), fun n hn => up n (hb.2 n hn)⟩
theorem InvI.rest {O R old new before now rr rest : List Int} {u1 v1 u2 v2 q : List Rat} {c : Rat} {S : Int} (I : InvI O R old new before now u1 v1 u2 v2 c) (cop : Cop (toR O) (toR R)) (h2 : 2 ≤ new.length) (hS : S ≠ 0)
    (h : ∀ z, (S : Rat) * ev (toR old) z = ev q z * ev (toR new) z + ev (toR rr) z) (lr : rr.length < new.length) (hr : ∀ z, ev (toR rest) z = ev (toR rr) z) : rest ≠ [] := fun z => by
  have hSr : (S : Rat) ≠ 0 := by exact_mod_cast hS
  have hne := I.ne cop
  have lt := I.lt
  obtain ⟨q', hq', lq'⟩ := quo_len I.to I.tn (fun z => hne (toR_nil_iff.mp z)) hSr (by rw [toR_len, toR_len]; exact lr) (by rw [toR_len, toR_len]; omega) h
  obtain ⟨u', v', c', P', _⟩ := pr_stepX (s' := toR rest) (r := 1) I.P hSr (by decide) (by rw [toR_len, toR_len]; omega) lq' fun z => by
    rw [hr, hq', h]
    grind
  rw [z] at P'
  exact no_common P' cop I.tn h2
theorem InvI.step {O R old new before now rr rest turn : List Int} {u1 v1 u2 v2 q : List Rat} {c : Rat} {S : Int} {g : Nat} (I : InvI O R old new before now u1 v1 u2 v2 c) (cop : Cop (toR O) (toR R)) (h2 : 2 ≤ new.length) (hS : S ≠ 0)
    (h : ∀ z, (S : Rat) * ev (toR old) z = ev q z * ev (toR new) z + ev (toR rr) z) (lr : rr.length < new.length) (hr : ∀ z, ev (toR rest) z = ev (toR rr) z) (tr : Tr (toR rest)) (lrest : rest.length ≤ rr.length)
    (ht : ∀ z, ev (toR turn) z = (S : Rat) * ev (toR before) z - ev q z * ev (toR now) z) (hg : 0 < g) (hd : ∀ n ∈ rest ++ turn, (g : Int) ∣ n) (hm : ∀ k : Nat, (∀ n ∈ rest ++ turn, (k : Int) ∣ n) → k ∣ g) :
    ∃ u' v' c', InvI O R new (rest.map fun n => n.fdiv (g : Int)) now (turn.map fun n => n.fdiv (g : Int)) u2 v2 u' v' c' := by
  have hSr : (S : Rat) ≠ 0 := by exact_mod_cast hS
  have hne := I.ne cop
  have lt := I.lt
  have lR := I.lR
  have hgi : (g : Int) ≠ 0 := by omega
  have hgr : ((g : Int) : Rat) ≠ 0 := by exact_mod_cast hgi
  have hr1 : (1 : Rat) / ((g : Int) : Rat) ≠ 0 := by grind
  have e1 := toR_div hgi fun n hn => hd n (List.mem_append_left _ hn)
  have e2 := toR_div hgi fun n hn => hd n (List.mem_append_right _ hn)
  obtain ⟨q', hq', lq'⟩ := quo_len I.to I.tn (fun z => hne (toR_nil_iff.mp z)) hSr (by rw [toR_len, toR_len]; exact lr) (by rw [toR_len, toR_len]; omega) h
  obtain ⟨u', v', c', P', hv'⟩ := pr_stepX (s' := toR (rest.map fun n => n.fdiv (g : Int))) (r := 1 / ((g : Int) : Rat)) I.P hSr hr1 (by rw [toR_len, toR_len]; omega) lq' fun z => by
    rw [e1, ev_smul, hr, hq', h]
    grind
  refine ⟨u', v', c', P', I.n, fun z => ?_, by rw [List.length_map]; omega, h2, by rw [List.length_map]; omega, I.tn, by rw [e1]; exact tr_mapX hr1 tr, fun k hk => ?_⟩
  · rw [hv', e2, ev_smul, ht, I.b, I.n, hq']
  · have h1 : ∀ n ∈ rest ++ turn, ((k * g : Nat) : Int) ∣ n := fun n hn => by
      obtain ⟨m, hm'⟩ := hd n hn
      have h2 := hk (n.fdiv (g : Int)) (by
        rw [← List.map_append]
        exact List.mem_map.mpr ⟨n, hn, rfl⟩)
      rw [hm', Int.mul_fdiv_cancel_left _ hgi] at h2
      obtain ⟨j, hj⟩ := h2
      refine ⟨j, ?_⟩
      rw [hm', hj]
      push_cast
      grind
    have h2 := Nat.le_of_dvd hg (hm _ h1)
    have h3 : 0 < k := by
      refine Nat.pos_of_ne_zero fun z => ?_
      rw [z, Nat.zero_mul] at h1
      have := hm 0 h1
      omega
    have : k ≤ 1 := Nat.le_of_mul_le_mul_right (by omega) hg
    omega
theorem inv_start {O R : List Int} (tO : Tr (toR O)) (tR : Tr (toR R)) (l2 : 2 ≤ O.length) (lt : R.length < O.length) : InvI O R O R [] [1] [1] [] [] [1] 1 :=
  ⟨pr_start _ _, fun _ => rfl, fun _ => rfl, lt, l2, Nat.le_refl _, tO, tR, fun g h => by
    have := h 1 (List.mem_append_right _ List.mem_cons_self)
    have := Int.le_of_dvd (by decide) this
    have h0 : g ≠ 0 := fun z => by
      subst z
      exact absurd (Int.zero_dvd.mp (h 1 (List.mem_append_right _ List.mem_cons_self))) (by decide)
    omega⟩
end Vx
namespace Vx
theorem cop_of {ps qs g o t : List Rat} (G : Gcd ps qs g) (ho : ∀ z, ev ps z = ev o z * ev g z) (ht : ∀ z, ev qs z = ev t z * ev g z) : Cop o t := by
  obtain ⟨a, b, hab⟩ := G.b
  refine ⟨a, b, fun z => ?_⟩
  have := ev_cancel (x := ladd (pmul a o) (pmul b t)) (y := [1]) G.tr G.ld.ne (fun z => by
    rw [ev_ladd, ev_pmul, ev_pmul, ev_one]
    have := hab z
    rw [ho, ht] at this
    grind) z
  rw [ev_ladd, ev_pmul, ev_pmul, ev_one] at this
  exact this
/-- a divisor of 1 is a number -/
theorem unit_len {t x : List Rat} (tt : Tr t) (h : ∀ z, ev t z * ev x z = 1) : t.length = 1 := by
  have nt : t ≠ [] := fun z => by
    have := h 0
    rw [z, ev_nil, Rat.zero_mul] at this
    exact absurd this (by decide)
  refine Nat.le_antisymm (Nat.le_of_lt_succ (Nat.lt_of_not_le fun h2 => ?_)) (List.length_pos_iff.mpr nt)
  have := len_of_mul (w := [1]) tr_one tt nt (x := x) (fun z => by rw [ev_one, h]) (by show 1 < _; omega)
  cases this
theorem cd_single {ps g : List Rat} {d e : Nat} {k : Rat} (cp : Cd d e ps) (ld : Lead1 g) (h : ∀ z, k * ev ps z = ev g z) : Cd e d [k] := by
  obtain ⟨D, d0, d1, d2⟩ := cp
  obtain ⟨i, g1, _⟩ := ld
  have e1 : k * at0 ps i = 1 := by
    rw [← at0_smul, ← g1]
    exact ev_ats (fun z => by rw [ev_smul, h]) i
  obtain ⟨n, h1, h2⟩ := cd_at (a := 0) d2 i
  have hn : n ≠ 0 := fun z => by
    rw [z] at h1
    have hD : (D : Rat) ≠ 0 := by exact_mod_cast (show D ≠ 0 by omega)
    have h3 : at0 ps i * (D : Rat) = 0 := by rw [h1]; rfl
    rcases Rat.mul_eq_zero.mp h3 with h4 | h4
    · rw [h4, Rat.mul_zero] at e1
      exact absurd e1 (by decide)
    · exact hD h4
  have key : k * (n : Rat) = (D : Rat) := by
    rw [← h1]
    grind
  refine ⟨n.natAbs, by omega, h2, fun c hc => ?_⟩
  rw [List.mem_singleton.mp hc]
  rcases Int.natAbs_eq n with z | z
  · refine ⟨(D : Int), ?_, by rw [Int.natAbs_natCast]; exact d1⟩
    have e2 : ((n.natAbs : Nat) : Rat) = (n : Rat) := by exact_mod_cast z.symm
    rw [e2, key]
    rfl
  · refine ⟨-(D : Int), ?_, by rw [Int.natAbs_neg, Int.natAbs_natCast]; exact d1⟩
    have e2 : ((n.natAbs : Nat) : Rat) = -(n : Rat) := by
      have : ((n.natAbs : Nat) : Int) = -n := by omega
      exact_mod_cast this
    rw [e2]
    push_cast
    grind
/-- what the answer of cofactors is -/
structure Cof (ps qs g E F : List Rat) : Prop where
  G : Gcd ps qs g
  tE : Tr E
  tF : Tr F
  eq : ∀ z, ev E z * ev ps z + ev F z * ev qs z = ev g z
  n : qs = [] → E.length = 1 ∧ F = []
  c : qs ≠ [] → ∀ t, Tr t → (∀ z, ev qs z = ev t z * ev g z) → E.length < t.length
theorem Cof.uniq {ps qs g g' E F E' F' : List Rat} (a : Cof ps qs g E F) (b : Cof ps qs g' E' F') (tq : Tr qs) : E' = E ∧ F' = F := by
  have hg : g' = g := Gcd.uniq a.G b.G
  subst hg
  have hdif : ∀ z, (ev E z - ev E' z) * ev ps z + (ev F z - ev F' z) * ev qs z = 0 := fun z => by
    have h1 := a.eq z
    have h2 := b.eq z
    grind
  obtain ⟨o, ho⟩ := a.G.l
  obtain ⟨t', ht'⟩ := a.G.r
  obtain ⟨t, tt, _, ht⟩ := trim_ex t'
  have ht : ∀ z, ev qs z = ev t z * ev g' z := fun z => by rw [ht', ht]
  by_cases hq : qs = []
  · have ff : F' = F := by rw [(a.n hq).2, (b.n hq).2]
    refine ⟨?_, ff⟩
    have hp : ∀ z, ev g' z = ev E z * ev ps z := fun z => by
      have := a.eq z
      rw [hq, ev_nil] at this
      grind
    have := ev_cancel (x := pmul E' o) (y := pmul E o) a.G.tr a.G.ld.ne fun z => by
      rw [ev_pmul, ev_pmul]
      have h1 := a.eq z
      have h2 := b.eq z
      rw [hq, ev_nil, ho] at h1 h2
      grind
    have hu : ∀ z, ev o z * ev E z = 1 := by
      have := ev_cancel (x := pmul o E) (y := [1]) a.G.tr a.G.ld.ne fun z => by
        rw [ev_pmul, ev_one]
        have h1 := a.eq z
        rw [hq, ev_nil, ho] at h1
        grind
      intro z
      have := this z
      rwa [ev_pmul, ev_one] at this
    refine ev_inj b.tE a.tE fun z => ?_
    have h3 := this z
    rw [ev_pmul, ev_pmul] at h3
    have h4 := hu z
    have h5 : ev o z ≠ 0 := fun h => by rw [h] at h4; grind
    grind
  · have nt : t ≠ [] := fun z => hq (by
      refine ev_inj tq tr_nil fun x => ?_
      rw [ht, z, ev_nil]
      grind)
    obtain ⟨u, v, huv⟩ := cop_of a.G ho ht
    have l1 := a.c hq t tt ht
    have l2 := b.c hq t tt ht
    -- the difference of the first ones
    have hd : ∀ z, (ev E z - ev E' z) * ev o z + (ev F z - ev F' z) * ev t z = 0 := by
      have := ev_cancel (x := ladd (pmul (ladd E (smul (-1) E')) o) (pmul (ladd F (smul (-1) F')) t)) (y := []) a.G.tr a.G.ld.ne fun z => by
        rw [ev_ladd, ev_pmul, ev_pmul, ev_ladd, ev_ladd, ev_smul, ev_smul, ev_nil]
        have := hdif z
        rw [ho, ht] at this
        grind
      intro z
      have := this z
      rw [ev_ladd, ev_pmul, ev_pmul, ev_ladd, ev_ladd, ev_smul, ev_smul, ev_nil] at this
      grind
    obtain ⟨Y, y1, y2, y3⟩ := trim_ex (ladd E (smul (-1) E'))
    have eY : ∀ z, ev Y z = ev E z - ev E' z := fun z => by
      rw [y3, ev_ladd, ev_smul]
      grind
    rw [ladd_length, smul_len] at y2
    have hY := len_of_mul y1 tt nt (x := ladd (pmul v Y) (pmul u (ladd F' (smul (-1) F)))) (fun z => by
      rw [ev_ladd, ev_pmul, ev_pmul, ev_ladd, ev_smul, eY]
      have h1 := huv z
      have h2 := hd z
      have h6 : (ev E z - ev E' z) * (ev u z * ev o z + ev v z * ev t z) = ev E z - ev E' z := by rw [h1]; grind
      have h7 : (ev E z - ev E' z) * (ev u z * ev o z + ev v z * ev t z) = ev u z * ((ev E z - ev E' z) * ev o z) + (ev E z - ev E' z) * (ev v z * ev t z) := by grind
      have h8 : (ev E z - ev E' z) * ev o z = -((ev F z - ev F' z) * ev t z) := by grind
      rw [h6, h8] at h7
      rw [h7]
      grind) (by omega)
    have eE : ∀ z, ev E' z = ev E z := fun z => by
      have := eY z
      rw [hY, ev_nil] at this
      grind
    refine ⟨ev_inj b.tE a.tE eE, ev_inj b.tF a.tF fun z => ?_⟩
    have := ev_cancel (x := F') (y := F) tt nt (fun z => by
      have h1 := hd z
      have h2 := eE z
      rw [h2] at h1
      grind) z
    exact this
end Vx
namespace Vx
theorem iv_mul {a b r : List Int} (h : ∀ z, ev (toR r) z = ev (toR a) z * ev (toR b) z) (X : Int) : iv r X = iv a X * iv b X := by
  have e := h (X : Rat)
  rw [← iv_ev, ← iv_ev, ← iv_ev] at e
  exact_mod_cast e
theorem tr_of_eq {l : List Int} {w : List Rat} (h : toR l = w) (t : Tr w) : Tr (toR l) := by rw [h]; exact t
/-- a whole row, over a row without a common divisor: whole, and not longer than it must be -/
theorem gauss_tr {p F : List Int} {w : List Rat} (hp : Prim p) (h : ∀ z, ev (toR F) z = ev w z * ev (toR p) z) : ∃ W : List Int, Tr (toR W) ∧ ∀ z, ev (toR F) z = ev (toR W) z * ev (toR p) z := by
  obtain ⟨t, t1, _, t3⟩ := trim_ex w
  obtain ⟨W, hW⟩ := gauss' (p := p) (F := F) (w := t) hp fun z => by rw [h, t3]
  exact ⟨W, tr_of_eq hW t1, fun z => by rw [h, hW, t3]⟩
theorem iv_one {l : List Int} (h : l.length = 1) (X : Int) : iv l X = l.getD 0 0 := by
  match l, h with
  | [c], _ =>
    show c + X * 0 = c
    omega
theorem ne_of_len {l : List Int} (h : l.length = 1) (t : Tr (toR l)) : l.getD 0 0 ≠ 0 := by
  match l, h with
  | [c], _ =>
    intro e
    have e' : c = 0 := e
    subst e'
    exact t (List.cons_ne_nil _ _) rfl
/-- digits: what is found divides both, so it is all that does -/
theorem sound {f g ds ms : List Int} {A B : Nat} {X : Int} {G' : List Rat} (tf : Tr (toR f)) (nf : f ≠ []) (tg : Tr (toR g)) (ng : g ≠ []) (hA : ∀ n ∈ f, n.natAbs ≤ A) (hB : ∀ n ∈ g, n.natAbs ≤ B)
    (hX : 2 * ((min A B : Nat) : Int) + 3 ≤ X) (hd : ∀ d ∈ ds, 2 * (d.natAbs : Int) ≤ X) (hv : iv ds X = ((Nat.gcd (iv f X).natAbs (iv g X).natAbs : Nat) : Int)) (P : PrimOf ds ms) (hm : ms ≠ [])
    (hf : ∃ x : List Rat, ∀ z, ev (toR f) z = ev x z * ev (toR ms) z) (hg : ∃ y : List Rat, ∀ z, ev (toR g) z = ev y z * ev (toR ms) z) (GG : Gcd (toR f) (toR g) G') : ∃ k : Rat, k ≠ 0 ∧ G' = smul k (toR ms) := by
  have pm : Prim ms := P.g hm
  have nms : toR ms ≠ [] := fun z => hm (toR_nil_iff.mp z)
  obtain ⟨G, k0, k00, hG, pG, tG, nG⟩ := prim_ex GG.tr GG.ld.ne
  -- G = Q h, f = u G, g = w G
  obtain ⟨x, hx⟩ := hf
  obtain ⟨y, hy⟩ := hg
  obtain ⟨a, b, hab⟩ := GG.b
  obtain ⟨Q, tQ, hQ⟩ := gauss_tr (p := ms) (F := G) (w := smul k0 (ladd (pmul a x) (pmul b y))) pm fun z => by
    rw [hG, ev_smul, ev_smul, hab, ev_ladd, ev_pmul, ev_pmul, hx, hy]
    grind
  have hG2 : ∀ z, ev (toR G) z = k0 * ev G' z := fun z => by rw [hG, ev_smul]
  obtain ⟨x', hx'⟩ := GG.l
  obtain ⟨y', hy'⟩ := GG.r
  obtain ⟨u, tu, hu⟩ := gauss_tr (p := G) (F := f) (w := smul (1 / k0) x') pG fun z => by
    rw [hx', ev_smul, hG2]
    grind
  obtain ⟨w, tw, hw⟩ := gauss_tr (p := G) (F := g) (w := smul (1 / k0) y') pG fun z => by
    rw [hy', ev_smul, hG2]
    grind
  have nQ : toR Q ≠ [] := fun z => nG (toR_nil_iff.mp (ev_nil_of tG hQ (.inl z)))
  have nQ' : Q ≠ [] := fun z => nQ (by rw [z]; rfl)
  -- the smaller one
  obtain ⟨F, M, tF, nF, hFM, hMX, t, tt, ht, hdv⟩ : ∃ (F : List Int) (M : Nat), Tr (toR F) ∧ F ≠ [] ∧ (∀ n ∈ F, n.natAbs ≤ M) ∧ 2 * (M : Int) + 3 ≤ X ∧ ∃ t : List Int, Tr (toR t) ∧ (∀ z, ev (toR F) z = ev (toR t) z * ev (toR G) z) ∧ Nat.gcd (iv f X).natAbs (iv g X).natAbs ∣ (iv F X).natAbs := by
    rcases Nat.le_total A B with h | h
    · rw [Nat.min_eq_left h] at hX
      exact ⟨f, A, tf, nf, hA, hX, u, tu, hu, Nat.gcd_dvd_left _ _⟩
    · rw [Nat.min_eq_right h] at hX
      exact ⟨g, B, tg, ng, hB, hX, w, tw, hw, Nat.gcd_dvd_right _ _⟩
  have Xp : 0 < X := by omega
  have hF0 : iv F X ≠ 0 := by
    by_cases hl : 2 ≤ F.length
    · have := far (u := [1]) tF nF tF hl (fun _ => (by decide : (1 : Rat) ≠ 0)) (fun z => by rw [ev_one]; grind) hFM hMX
      omega
    · have hl1 : F.length = 1 := by
        have := List.length_pos_iff.mpr nF
        omega
      rw [iv_one hl1]
      exact ne_of_len hl1 tF
  have hg0 : Nat.gcd (iv f X).natAbs (iv g X).natAbs ≠ 0 := fun e => by
    rw [e, Nat.zero_dvd] at hdv
    omega
  -- the content
  obtain ⟨c, c0, hc⟩ := P.c
  obtain ⟨W, hW⟩ := gauss' (p := ms) (F := ds) (w := [1 / c]) pm fun z => by
    rw [hc]
    show _ = (1 / c + z * 0) * _
    grind
  obtain ⟨c', rfl⟩ : ∃ c', W = [c'] := by
    have := congrArg List.length hW
    rw [toR_len] at this
    exact List.length_eq_one_iff.mp this
  have hc1 : (c' : Rat) = 1 / c := by
    have : toR [c'] = [(c' : Rat)] := rfl
    rw [this] at hW
    exact (List.cons.inj hW).1
  have hds : ∀ z, ev (toR ds) z = ev (toR [c']) z * ev (toR ms) z := fun z => by
    rw [hc]
    show _ = ((c' : Rat) + z * 0) * _
    rw [hc1]
    grind
  have ivd := iv_mul hds X
  have ivd' : iv ds X = c' * iv ms X := by
    rw [ivd, iv_one (l := [c']) rfl]
    rfl
  have c'0 : c' ≠ 0 := fun e => by
    rw [e] at hc1
    have : (1 : Rat) / c ≠ 0 := by grind
    exact this hc1.symm
  have hcX : 2 * (c'.natAbs : Int) ≤ X := by
    -- some number of ds is c' times one that is not 0
    have hi : at0 (toR ds) (ms.length - 1) = (c' : Rat) * at0 (toR ms) (ms.length - 1) := by
      rw [← at0_smul]
      refine ev_ats (fun z => ?_) _
      rw [hds, ev_smul]
      show ((c' : Rat) + z * 0) * _ = _
      grind
    have hl : at0 (toR ms) (ms.length - 1) ≠ 0 := by
      have := tr_at P.tr nms
      rwa [toR_len] at this
    rw [at0_toR, at0_toR] at hi
    rw [at0_toR] at hl
    have h1 : ds.getD (ms.length - 1) 0 = c' * ms.getD (ms.length - 1) 0 := by exact_mod_cast hi
    have h2 : ms.getD (ms.length - 1) 0 ≠ 0 := fun e => hl (by rw [e]; rfl)
    have h3 : ds.getD (ms.length - 1) 0 ≠ 0 := by
      rw [h1]
      exact Int.mul_ne_zero c'0 h2
    have hmem : ds.getD (ms.length - 1) 0 ∈ ds := by
      by_cases hlt : ms.length - 1 < ds.length
      · rw [List.getD_eq_getElem?_getD, List.getElem?_eq_getElem hlt]
        exact List.getElem_mem _
      · exact absurd (by rw [List.getD_eq_getElem?_getD, List.getElem?_eq_none (by omega)]; rfl) h3
    have h4 := hd _ hmem
    rw [h1, Int.natAbs_mul] at h4
    have h5 := Nat.le_mul_of_pos_right c'.natAbs (show 0 < (ms.getD (ms.length - 1) 0).natAbs by omega)
    omega
  -- G's worth divides the common one
  have dG : (iv G X).natAbs ∣ Nat.gcd (iv f X).natAbs (iv g X).natAbs := by
    refine Nat.dvd_gcd ?_ ?_
    · rw [iv_mul hu X, Int.natAbs_mul]
      exact Nat.dvd_mul_left _ _
    · rw [iv_mul hw X, Int.natAbs_mul]
      exact Nat.dvd_mul_left _ _
  have hval : Nat.gcd (iv f X).natAbs (iv g X).natAbs = c'.natAbs * (iv ms X).natAbs := by
    have := congrArg Int.natAbs hv
    rw [ivd', Int.natAbs_mul, Int.natAbs_natCast] at this
    exact this.symm
  have ivG := iv_mul hQ X
  rw [hval, ivG, Int.natAbs_mul] at dG
  have hm0 : 0 < (iv ms X).natAbs := by
    rcases Nat.eq_zero_or_pos (iv ms X).natAbs with e | e
    · rw [hval, e, Nat.mul_zero] at hg0
      exact absurd rfl hg0
    · exact e
  have dQ : (iv Q X).natAbs ∣ c'.natAbs := Nat.dvd_of_mul_dvd_mul_right hm0 dG
  have leQ := Nat.le_of_dvd (by omega) dQ
  -- so it is a number
  have lQ : Q.length = 1 := by
    have h1 := List.length_pos_iff.mpr nQ'
    refine Classical.byContradiction fun z => ?_
    have h2 := far (F := F) (q := Q) (u := pmul (toR t) (toR ms)) (M := M) (X := X) tF nF tQ (by omega) (by
      have nt : toR t ≠ [] := fun z => nF (toR_nil_iff.mp (ev_nil_of tF ht (.inl z)))
      exact tr_pmul tt P.tr nt nms) (fun z => by rw [ht, hQ, ev_pmul]; grind) hFM hMX
    omega
  obtain ⟨q, rfl⟩ : ∃ q, Q = [q] := List.length_eq_one_iff.mp lQ
  have q0 : q ≠ 0 := ne_of_len (l := [q]) rfl tQ
  have qr : (q : Rat) ≠ 0 := by exact_mod_cast q0
  refine ⟨1 / k0 * (q : Rat), ?_, ?_⟩
  · intro e
    rcases Rat.mul_eq_zero.mp e with z | z
    · have : 1 / k0 ≠ 0 := by grind
      exact this z
    · exact qr z
  · have tk : Tr (smul (1 / k0 * (q : Rat)) (toR ms)) := tr_of_at fun hn => by
      rw [smul_len, at0_smul]
      have := tr_at P.tr nms
      intro e
      rcases Rat.mul_eq_zero.mp e with z | z
      · rcases Rat.mul_eq_zero.mp z with z | z
        · have : 1 / k0 ≠ 0 := by grind
          exact this z
        · exact qr z
      · exact this z
    refine ev_inj GG.tr tk fun z => ?_
    rw [ev_smul]
    have h1 := hG2 z
    rw [hQ] at h1
    have h2 : ev (toR [q]) z = (q : Rat) := by
      show (q : Rat) + z * 0 = _
      grind
    rw [h2] at h1
    grind
/-! digits, once only -/
theorem iv_head (l : List Int) (X : Int) : iv l X = l.getD 0 0 + X * iv l.tail X := by
  cases l with
  | nil => show (0 : Int) = 0 + X * 0; omega
  | cons c l => rfl
theorem getD_tail (l : List Int) (i : Nat) : l.getD (i + 1) 0 = l.tail.getD i 0 := by
  cases l with
  | nil => rfl
  | cons c l => rfl
theorem dig_uniq {X : Int} (hX : 0 < X) : ∀ (i : Nat) (d e : List Int), (∀ x ∈ d, -X < 2 * x ∧ 2 * x ≤ X) → (∀ x ∈ e, -X < 2 * x ∧ 2 * x < X) → iv d X = iv e X → d.getD i 0 = e.getD i 0 := by
  have mem0 : ∀ (l : List Int) (Q : Int → Prop), Q 0 → (∀ x ∈ l, Q x) → Q (l.getD 0 0) := fun l Q h0 h => by
    cases l with
    | nil => exact h0
    | cons c l => exact h c List.mem_cons_self
  have head : ∀ (d e : List Int), (∀ x ∈ d, -X < 2 * x ∧ 2 * x ≤ X) → (∀ x ∈ e, -X < 2 * x ∧ 2 * x < X) → iv d X = iv e X → d.getD 0 0 = e.getD 0 0 ∧ iv d.tail X = iv e.tail X := fun d e hd he h => by
    rw [iv_head d, iv_head e] at h
    have h1 := mem0 d (fun x => -X < 2 * x ∧ 2 * x ≤ X) (by omega) hd
    have h2 := mem0 e (fun x => -X < 2 * x ∧ 2 * x < X) (by omega) he
    generalize d.getD 0 0 = a at *
    generalize e.getD 0 0 = b at *
    have h3 : a - b = X * (iv e.tail X - iv d.tail X) := by
      rw [Int.mul_sub]
      omega
    have h4 : iv e.tail X - iv d.tail X = 0 := by
      refine Classical.byContradiction fun z => ?_
      rcases Int.lt_or_gt_of_ne z with w | w
      · have := Int.mul_le_mul_of_nonneg_left (show iv e.tail X - iv d.tail X ≤ -1 by omega) (show 0 ≤ X by omega)
        omega
      · have := Int.mul_le_mul_of_nonneg_left (show 1 ≤ iv e.tail X - iv d.tail X by omega) (show 0 ≤ X by omega)
        omega
    rw [h4] at h3
    omega
  intro i
  induction i with
  | zero => exact fun d e hd he h => (head d e hd he h).1
  | succ i ih =>
    intro d e hd he h
    rw [getD_tail, getD_tail]
    exact ih _ _ (fun x hx => hd x (List.mem_of_mem_tail hx)) (fun x hx => he x (List.mem_of_mem_tail hx)) (head d e hd he h).2
/-- at great numbers what is found divides both -/
theorem finds {f g G u w S T W ds ms : List Int} {ρ X : Int} {β : Nat} (hu : ∀ z, ev (toR f) z = ev (toR u) z * ev (toR G) z) (hw : ∀ z, ev (toR g) z = ev (toR w) z * ev (toR G) z) (hST : ∀ z, ev (toR S) z * ev (toR u) z + ev (toR T) z * ev (toR w) z = (ρ : Rat))
    (hW : toR W = smul (ρ : Rat) (toR G)) (ρ0 : ρ ≠ 0) (hWb : ∀ n ∈ W, n.natAbs ≤ 2 ^ β) (hX : 2 * ((2 ^ β : Nat) : Int) < X) (hd : ∀ x ∈ ds, -X < 2 * x ∧ 2 * x ≤ X) (hv : iv ds X = ((Nat.gcd (iv f X).natAbs (iv g X).natAbs : Nat) : Int)) (P : PrimOf ds ms) :
    (∃ x : List Rat, ∀ z, ev (toR f) z = ev x z * ev (toR ms) z) ∧ (∃ y : List Rat, ∀ z, ev (toR g) z = ev y z * ev (toR ms) z) := by
  have Xp : 0 < X := by
    have := Nat.two_pow_pos β
    omega
  -- what both worths have in common
  obtain ⟨c, hc⟩ : ∃ c, Nat.gcd (iv u X).natAbs (iv w X).natAbs = c := ⟨_, rfl⟩
  have hgc : Nat.gcd (iv f X).natAbs (iv g X).natAbs = c * (iv G X).natAbs := by
    rw [iv_mul hu X, iv_mul hw X, Int.natAbs_mul, Int.natAbs_mul, Nat.gcd_mul_right, hc]
  have hsum : iv S X * iv u X + iv T X * iv w X = ρ := by
    have e := hST (X : Rat)
    rw [← iv_ev, ← iv_ev, ← iv_ev, ← iv_ev] at e
    exact_mod_cast e
  have cd : (c : Int) ∣ ρ := by
    rw [← hsum, ← hc]
    refine Int.dvd_add ?_ ?_
    · exact Int.dvd_trans (Int.ofNat_dvd_left.mpr (Nat.gcd_dvd_left _ _)) (Int.dvd_mul_left _ _)
    · exact Int.dvd_trans (Int.ofNat_dvd_left.mpr (Nat.gcd_dvd_right _ _)) (Int.dvd_mul_left _ _)
  obtain ⟨c2, hc2⟩ := cd
  have c0 : (c : Int) ≠ 0 := fun e => by
    rw [e] at hc2
    omega
  have c20 : c2 ≠ 0 := fun e => by
    rw [e] at hc2
    omega
  -- the sign
  obtain ⟨s, hs, hsG⟩ : ∃ s : Int, (s = 1 ∨ s = -1) ∧ s * iv G X = ((iv G X).natAbs : Int) := by
    rcases Int.natAbs_eq (iv G X) with e | e
    · exact ⟨1, .inl rfl, by omega⟩
    · exact ⟨-1, .inr rfl, by omega⟩
  have hWG : ∀ i, W.getD i 0 = ρ * G.getD i 0 := fun i => by
    have := congrArg (fun l => at0 l i) hW
    simp only [at0_smul, at0_toR] at this
    exact_mod_cast this
  have hE : ∀ x ∈ G.map fun n => s * c * n, -X < 2 * x ∧ 2 * x < X := fun x hx => by
    obtain ⟨n, hn, rfl⟩ := List.mem_map.mp hx
    obtain ⟨i, hi⟩ := List.mem_iff_getElem?.mp hn
    have hlt := (List.getElem?_eq_some_iff.mp hi).1
    have e1 := hWG i
    rw [List.getD_eq_getElem?_getD (l := G), hi] at e1
    have e1' : W.getD i 0 = ρ * n := e1
    have lW : W.length = G.length := by
      have := congrArg List.length hW
      rwa [toR_len, smul_len, toR_len] at this
    have hm : W.getD i 0 ∈ W := by
      rw [List.getD_eq_getElem?_getD, List.getElem?_eq_getElem (by omega)]
      exact List.getElem_mem _
    have h1 := hWb _ hm
    rw [e1', hc2, Int.natAbs_mul, Int.natAbs_mul, Int.natAbs_natCast] at h1
    have h2 : (s * c * n).natAbs = c * n.natAbs := by
      rw [Int.natAbs_mul, Int.natAbs_mul, Int.natAbs_natCast]
      rcases hs with rfl | rfl <;> simp
    have h3 : c * n.natAbs ≤ c * c2.natAbs * n.natAbs := by
      refine Nat.mul_le_mul_right _ ?_
      exact Nat.le_mul_of_pos_right _ (by omega)
    omega
  have hEr : ∀ z, ev (toR (G.map fun n => s * c * n)) z = ((s * c : Int) : Rat) * ev (toR G) z := fun z => by
    have : toR (G.map fun n => s * c * n) = smul ((s * c : Int) : Rat) (toR G) := ext0 (by rw [toR_len, List.length_map, smul_len, toR_len]) fun i hi => by
      rw [toR_len, List.length_map] at hi
      rw [at0_smul, at0_toR, at0_toR]
      have : (G.map fun n => s * c * n).getD i 0 = s * c * G.getD i 0 := by
        rw [List.getD_eq_getElem?_getD, List.getD_eq_getElem?_getD, List.getElem?_map, List.getElem?_eq_getElem hi]
        rfl
      rw [this]
      push_cast
      rfl
    rw [this, ev_smul]
  have hEv : iv ds X = iv (G.map fun n => s * c * n) X := by
    have e := hEr (X : Rat)
    rw [← iv_ev, ← iv_ev] at e
    have e2 : iv (G.map fun n => s * c * n) X = s * c * iv G X := by exact_mod_cast e
    rw [hv, hgc, e2]
    push_cast
    rw [Int.mul_comm s, Int.mul_assoc, hsG]
    try push_cast
    try rfl
  have hat : ∀ i, at0 (toR ds) i = at0 (toR (G.map fun n => s * c * n)) i := fun i => by
    rw [at0_toR, at0_toR, dig_uniq Xp i _ _ hd hE hEv]
  have hdsG : ∀ z, ev (toR ds) z = ((s * c : Int) : Rat) * ev (toR G) z := fun z => by rw [← hEr]; exact ev_at hat z
  obtain ⟨k, k0, hk⟩ := P.c
  have scr : ((s * c : Int) : Rat) ≠ 0 := by
    have : s * (c : Int) ≠ 0 := Int.mul_ne_zero (by omega) c0
    exact_mod_cast this
  have hms : ∀ z, ev (toR ms) z = k * ((s * c : Int) : Rat) * ev (toR G) z := fun z => by
    rw [hk, hdsG]
    grind
  have kk : k * ((s * c : Int) : Rat) ≠ 0 := fun e => by
    rcases Rat.mul_eq_zero.mp e with z | z
    · exact k0 z
    · exact scr z
  generalize k * ((s * c : Int) : Rat) = κ at *
  exact ⟨⟨smul (1 / κ) (toR u), fun z => by rw [hu, hms, ev_smul]; grind⟩, ⟨smul (1 / κ) (toR w), fun z => by rw [hw, hms, ev_smul]; grind⟩⟩
end Vx
namespace Vx
theorem lead_ex {l : List Rat} (h : ∃ c ∈ l, c ≠ 0) : ∃ c : Rat, c ≠ 0 ∧ Lead1 (smul c l) := by
  have key : ∀ n, (∃ i, i ≤ n ∧ at0 l i ≠ 0) → ∃ i, at0 l i ≠ 0 ∧ ∀ j, j < i → at0 l j = 0 := by
    intro n
    induction n with
    | zero =>
      rintro ⟨i, hi, h0⟩
      have : i = 0 := by omega
      subst this
      exact ⟨0, h0, fun j hj => absurd hj (Nat.not_lt_zero _)⟩
    | succ n ih =>
      rintro ⟨i, hi, h0⟩
      by_cases hl : ∃ j, j ≤ n ∧ at0 l j ≠ 0
      · exact ih hl
      · refine ⟨i, h0, fun j hj => Classical.byContradiction fun z => hl ⟨j, by omega, z⟩⟩
  obtain ⟨c, hc, c0⟩ := h
  obtain ⟨i, hi⟩ := List.mem_iff_getElem?.mp hc
  obtain ⟨i, h0, hj⟩ := key i ⟨i, Nat.le_refl _, by rw [at0_some hi]; exact c0⟩
  refine ⟨1 / at0 l i, by grind, i, by rw [at0_smul]; grind, fun j hji => ?_⟩
  rw [at0_smul, hj j hji]
  grind
theorem div_ex {t : List Rat} (tt : Tr t) (nt : t ≠ []) : ∀ p : List Rat, ∃ q r : List Rat, (∀ z, ev p z = ev q z * ev t z + ev r z) ∧ r.length < t.length
  | [] => ⟨[], [], fun z => by show (0 : Rat) = 0 * _ + 0; grind, List.length_pos_iff.mpr nt⟩
  | a :: p => by
    obtain ⟨q, r, h, hl⟩ := div_ex tt nt p
    have hp := List.length_pos_iff.mpr nt
    have e : ∀ z, ev (a :: p) z = ev (0 :: q) z * ev t z + ev (a :: r) z := fun z => by
      show a + z * ev p z = (0 + z * ev q z) * ev t z + (a + z * ev r z)
      rw [h]
      grind
    by_cases hr : (a :: r).length < t.length
    · exact ⟨0 :: q, a :: r, e, hr⟩
    · have hL : (a :: r).length = t.length := by
        rw [List.length_cons] at hr ⊢
        omega
      obtain ⟨c, hc⟩ : ∃ c, c = at0 (a :: r) (t.length - 1) / at0 t (t.length - 1) := ⟨_, rfl⟩
      have ht0 := tr_at tt nt
      refine ⟨ladd (0 :: q) [c], (ladd (a :: r) (smul (-c) t)).take (t.length - 1), fun z => ?_, by rw [List.length_take]; omega⟩
      have hz : ∀ x ∈ (ladd (a :: r) (smul (-c) t)).drop (t.length - 1), x = 0 := fun x hx => by
        obtain ⟨j, hj⟩ := List.mem_iff_getElem?.mp hx
        rw [List.getElem?_drop] at hj
        have e1 := at0_some hj
        rw [at0_ladd', at0_smul] at e1
        rw [← e1]
        by_cases hj0 : j = 0
        · rw [hj0, Nat.add_zero, hc]
          grind
        · rw [at0_out (l := a :: r) (by omega), at0_out (l := t) (by omega)]
          grind
      rw [e, ev_take_drop _ _ hz, ev_ladd, ev_ladd]
      have e2 : ev (smul (-c) t) z = -c * ev t z := ev_scale _ _ _
      have e3 : ev [c] z = c := by show c + z * 0 = c; grind
      rw [e2, e3]
      grind
theorem gcd_ex {f g : List Rat} (tf : Tr f) (tg : Tr g) (hn : f ≠ [] ∨ g ≠ []) : ∃ G, Gcd f g G := by
  have key : ∀ n, (∃ w e h : List Rat, Tr w ∧ w ≠ [] ∧ w.length ≤ n ∧ ∀ z, ev w z = ev e z * ev f z + ev h z * ev g z) → ∃ G, Gcd f g G := by
    intro n
    induction n with
    | zero =>
      rintro ⟨w, e, h, tw, nw, lw, _⟩
      exact absurd (List.eq_nil_of_length_eq_zero (by omega)) nw
    | succ n ih =>
      rintro ⟨w, e, h, tw, nw, lw, hw⟩
      obtain ⟨q1, r1, d1, l1⟩ := div_ex tw nw f
      obtain ⟨q2, r2, d2, l2⟩ := div_ex tw nw g
      obtain ⟨s1, s1t, s1l, s1e⟩ := trim_ex r1
      obtain ⟨s2, s2t, s2l, s2e⟩ := trim_ex r2
      by_cases h1 : s1 = []
      · by_cases h2 : s2 = []
        · obtain ⟨c, c0, hc⟩ := lead_ex (l := w) ⟨_, List.getLast_mem nw, tw nw⟩
          refine ⟨_, gcd_of tw c0 rfl hc ⟨q1, fun z => ?_⟩ ⟨q2, fun z => ?_⟩ ⟨e, h, hw⟩⟩
          · rw [d1, ← s1e, h1, ev_nil]
            grind
          · rw [d2, ← s2e, h2, ev_nil]
            grind
        · refine ih ⟨s2, smul (-1) (pmul q2 e), ladd [1] (smul (-1) (pmul q2 h)), s2t, h2, by omega, fun z => ?_⟩
          rw [s2e, ev_smul, ev_ladd, ev_smul, ev_pmul, ev_pmul, ev_one]
          have a := d2 z
          rw [hw] at a
          grind
      · refine ih ⟨s1, ladd [1] (smul (-1) (pmul q1 e)), smul (-1) (pmul q1 h), s1t, h1, by omega, fun z => ?_⟩
        rw [s1e, ev_smul, ev_ladd, ev_smul, ev_pmul, ev_pmul, ev_one]
        have a := d1 z
        rw [hw] at a
        grind
  rcases hn with h | h
  · exact key f.length ⟨f, [1], [], tf, h, Nat.le_refl _, fun z => by rw [ev_one, ev_nil]; grind⟩
  · exact key g.length ⟨g, [], [1], tg, h, Nat.le_refl _, fun z => by rw [ev_one, ev_nil]; grind⟩
/-- what finds wants -/
theorem rho_ex {f g : List Int} {e l : Nat} {G' : List Rat} (tf : Tr (toR f)) (nf : f ≠ []) (tg : Tr (toR g)) (ng : g ≠ []) (pf : Prim f) (hA : ∀ n ∈ f, n.natAbs ≤ 2 ^ e) (hB : ∀ n ∈ g, n.natAbs ≤ 2 ^ e) (hl : f.length + g.length ≤ 2 ^ l) (GG : Gcd (toR f) (toR g) G') :
    ∃ (G u w S T W : List Int) (ρ : Int), (∀ z, ev (toR f) z = ev (toR u) z * ev (toR G) z) ∧ (∀ z, ev (toR g) z = ev (toR w) z * ev (toR G) z) ∧ (∀ z, ev (toR S) z * ev (toR u) z + ev (toR T) z * ev (toR w) z = (ρ : Rat)) ∧
      toR W = smul (ρ : Rat) (toR G) ∧ ρ ≠ 0 ∧ (∀ n ∈ W, n.natAbs ≤ 2 ^ bCof l e (f.length + g.length)) ∧ Prim G ∧ ∃ k : Rat, k ≠ 0 ∧ toR G = smul k G' := by
  have nfr : toR f ≠ [] := fun z => nf (toR_nil_iff.mp z)
  have ngr : toR g ≠ [] := fun z => ng (toR_nil_iff.mp z)
  obtain ⟨G, k0, k00, hG, pG, tG, nG⟩ := prim_ex GG.tr GG.ld.ne
  have nGr : toR G ≠ [] := fun z => nG (toR_nil_iff.mp z)
  have hG2 : ∀ z, ev (toR G) z = k0 * ev G' z := fun z => by rw [hG, ev_smul]
  obtain ⟨x', hx'⟩ := GG.l
  obtain ⟨y', hy'⟩ := GG.r
  obtain ⟨u, tu, hu⟩ := gauss_tr (p := G) (F := f) (w := smul (1 / k0) x') pG fun z => by
    rw [hx', ev_smul, hG2]
    grind
  obtain ⟨w, tw, hw⟩ := gauss_tr (p := G) (F := g) (w := smul (1 / k0) y') pG fun z => by
    rw [hy', ev_smul, hG2]
    grind
  have nu : toR u ≠ [] := fun z => nfr (ev_nil_of tf hu (.inl z))
  have nw : toR w ≠ [] := fun z => ngr (ev_nil_of tg hw (.inl z))
  obtain ⟨a, b, hab⟩ := GG.b
  have one : ∀ z, ev (smul k0 a) z * ev (toR u) z + ev (smul k0 b) z * ev (toR w) z = 1 := by
    have := ev_cancel (x := ladd (pmul (smul k0 a) (toR u)) (pmul (smul k0 b) (toR w))) (y := [1]) tG nGr fun z => by
      rw [ev_ladd, ev_pmul, ev_pmul, ev_one, ev_smul, ev_smul]
      have h1 := hab z
      have h2 := hG2 z
      rw [hu, hw] at h1
      grind
    intro z
    have := this z
    rwa [ev_ladd, ev_pmul, ev_pmul, ev_one] at this
  have lf : f.length + 1 = u.length + G.length := by
    have := (pmul_shape (toR u) (toR G) nu nGr).1
    rw [← prod_is tu tG tf hu nu nGr, toR_len, toR_len, toR_len] at this
    exact this
  have lg : g.length + 1 = w.length + G.length := by
    have := (pmul_shape (toR w) (toR G) nw nGr).1
    rw [← prod_is tw tG tg hw nw nGr, toR_len, toR_len, toR_len] at this
    exact this
  have lu := List.length_pos_iff.mpr nu
  have lw := List.length_pos_iff.mpr nw
  rw [toR_len] at lu lw
  have bp : (f.length + g.length) * (2 ^ e * ((f.length + g.length) * 2 ^ e) ^ (f.length + g.length)) ≤ 2 ^ bCof l e (f.length + g.length) := pow_bits hl (Nat.le_refl _)
  by_cases hlt : 2 * G.length < f.length + g.length
  · obtain ⟨S, T, W, lS, lT, lW, hn, _, hWb, hWe⟩ := small_combo (an := f) (bn := g) (A := 2 ^ e) (ls := G.length) hA hB (Nat.two_pow_pos e) (by omega) (by omega) hlt
    -- W is a number times G
    obtain ⟨X, x1, x2, x3⟩ := trim_ex (ladd (pmul (toR S) (toR u)) (pmul (toR T) (toR w)))
    have eX : ∀ z, ev X z = ev (toR S) z * ev (toR u) z + ev (toR T) z * ev (toR w) z := fun z => by rw [x3, ev_ladd, ev_pmul, ev_pmul]
    have eW : ∀ z, ev (toR W) z = ev X z * ev (toR G) z := fun z => by
      rw [hWe, eX, hu, hw]
      grind
    obtain ⟨W', w1, w2, w3⟩ := trim_ex (toR W)
    rw [toR_len, lW] at w2
    have hr : ∃ r : Rat, ∀ z, ev X z = r := by
      by_cases hX0 : X = []
      · exact ⟨0, fun z => by rw [hX0]; rfl⟩
      · have lX := prod_is x1 tG w1 (fun z => by rw [w3, eW]) hX0 nGr
        have l2 := (pmul_shape X (toR G) hX0 nGr).1
        rw [← lX, toR_len] at l2
        have : X.length = 1 := by
          have := List.length_pos_iff.mpr hX0
          omega
        match X, this with
        | [r], _ => exact ⟨r, fun z => by show r + z * 0 = r; grind⟩
    obtain ⟨r, hr⟩ := hr
    have r0 : r ≠ 0 := fun e0 => by
      -- then S u = - T w, and w divides S
      have h1 : ∀ z, ev (toR S) z * ev (toR u) z + ev (toR T) z * ev (toR w) z = 0 := fun z => by rw [← eX, hr, e0]
      obtain ⟨S', s1, s2, s3⟩ := trim_ex (toR S)
      have hS' : S' = [] := len_of_mul (x := ladd (smul (-1) (pmul (smul k0 a) (toR T))) (pmul (smul k0 b) (toR S))) s1 tw nw (fun z => by
        rw [s3, ev_ladd, ev_smul, ev_pmul, ev_pmul]
        have a1 := one z
        have a2 := h1 z
        have : ev (toR S) z = ev (toR S) z * (ev (smul k0 a) z * ev (toR u) z + ev (smul k0 b) z * ev (toR w) z) := by rw [a1]; grind
        grind) (by rw [toR_len] at s2 ⊢; omega)
      have hS : ∀ z, ev (toR S) z = 0 := fun z => by rw [← s3, hS']; rfl
      have hT : ∀ z, ev (toR T) z = 0 := by
        have := ev_cancel (x := toR T) (y := []) tw nw fun z => by
          rw [ev_nil]
          have a2 := h1 z
          rw [hS] at a2
          grind
        exact fun z => by rw [this z]; rfl
      obtain ⟨x, hx, x0⟩ := hn
      have all0 : ∀ (L : List Int), (∀ z, ev (toR L) z = 0) → ∀ y ∈ L, y = 0 := fun L h y hy => by
        have := ev_nought h (y : Rat) (List.mem_map.mpr ⟨y, hy, rfl⟩)
        exact_mod_cast this
      rcases List.mem_append.mp hx with h | h
      · exact x0 (all0 S hS x h)
      · exact x0 (all0 T hT x h)
    obtain ⟨R, hR⟩ := gauss' (p := G) (F := W) (w := [r]) pG fun z => by
      rw [eW, hr]
      show _ = (r + z * 0) * _
      grind
    obtain ⟨ρ, rfl⟩ : ∃ ρ, R = [ρ] := by
      have := congrArg List.length hR
      rw [toR_len] at this
      exact List.length_eq_one_iff.mp this
    have hρ : (ρ : Rat) = r := by
      have : toR [ρ] = [(ρ : Rat)] := rfl
      rw [this] at hR
      exact (List.cons.inj hR).1
    refine ⟨G, u, w, S, T, W, ρ, hu, hw, fun z => by rw [← eX, hr, hρ], ?_, fun e0 => r0 (by rw [← hρ, e0]; rfl), fun n hn => Nat.le_trans (hWb n hn) bp, pG, k0, k00, hG⟩
    refine ext0 (by rw [toR_len, lW, smul_len, toR_len]) fun i _ => ?_
    rw [hρ]
    have e1 : at0 (toR W) i = at0 (smul r (toR G)) i := ev_ats (fun z => by rw [eW, hr, ev_smul]) i
    rw [e1]
  · -- both are G but for a number
    have lu1 : u.length = 1 := by omega
    obtain ⟨u0, rfl⟩ : ∃ u0, u = [u0] := List.length_eq_one_iff.mp lu1
    have hfu : ∀ i, f.getD i 0 = u0 * G.getD i 0 := fun i => by
      have e1 : at0 (toR f) i = at0 (smul (u0 : Rat) (toR G)) i := ev_ats (fun z => by
        rw [hu, ev_smul]
        show ((u0 : Rat) + z * 0) * _ = _
        grind) i
      rw [at0_smul, at0_toR, at0_toR] at e1
      exact_mod_cast e1
    have u1 : u0.natAbs = 1 := pf u0.natAbs fun n hn => by
      obtain ⟨i, hi⟩ := List.mem_iff_getElem?.mp hn
      have e1 := hfu i
      rw [List.getD_eq_getElem?_getD, hi] at e1
      have e2 : n = u0 * G.getD i 0 := e1
      rw [e2]
      exact Int.dvd_trans (Int.natAbs_dvd.mpr (Int.dvd_refl u0)) (Int.dvd_mul_right _ _)
    have uu : u0 * u0 = 1 := by
      rcases Int.natAbs_eq u0 with e1 | e1 <;> rw [u1] at e1 <;> rw [e1] <;> rfl
    refine ⟨G, [u0], w, [u0], [], G, 1, hu, hw, fun z => ?_, ?_, by decide, fun n hn => ?_, pG, k0, k00, hG⟩
    · show ((u0 : Rat) + z * 0) * ((u0 : Rat) + z * 0) + 0 * _ = ((1 : Int) : Rat)
      have : ((u0 * u0 : Int) : Rat) = ((1 : Int) : Rat) := by rw [uu]
      push_cast at this ⊢
      grind
    · have : ((1 : Int) : Rat) = 1 := rfl
      rw [this, smul_one]
    · obtain ⟨i, hi⟩ := List.mem_iff_getElem?.mp hn
      have hlt := (List.getElem?_eq_some_iff.mp hi).1
      have e1 := hfu i
      rw [List.getD_eq_getElem?_getD (l := G), hi] at e1
      have e2 : f.getD i 0 = u0 * n := e1
      have lfG : f.length = G.length := by omega
      have hm : f.getD i 0 ∈ f := by
        rw [List.getD_eq_getElem?_getD, List.getElem?_eq_getElem (by omega)]
        exact List.getElem_mem _
      have h1 := hA _ hm
      rw [e2, Int.natAbs_mul, u1, Nat.one_mul] at h1
      refine Nat.le_trans h1 (Nat.pow_le_pow_right (by decide) ?_)
      unfold bCof
      omega
/-! sizes -/
theorem iv_bits {a x : Nat} {X : Int} (hX : Bz x X) : ∀ l : List Int, (∀ n ∈ l, Bz a n) → Bz (a + (x + 1) * l.length) (iv l X)
  | [], _ => by
    show (0 : Int).natAbs < _
    exact Nat.two_pow_pos _
  | c :: l, h => by
    have ih := iv_bits hX l fun n hn => h n (List.mem_cons_of_mem _ hn)
    have h1 := Bz.mul hX ih
    have h2 : Bz (x + (a + (x + 1) * l.length)) c := (h c List.mem_cons_self).mono (by omega)
    refine (Bz.add h2 h1).mono ?_
    rw [List.length_cons, Nat.mul_add]
    omega
theorem iv_pow {X : Int} (hX : 0 < X) : ∀ l : List Int, (∀ n ∈ l, (n.natAbs : Int) + 1 ≤ X) → ((iv l X).natAbs : Int) + 1 ≤ X ^ l.length
  | [], _ => by
    show ((0 : Int).natAbs : Int) + 1 ≤ X ^ 0
    rw [Int.pow_zero]
    decide
  | c :: l, h => by
    have ih := iv_pow hX l fun n hn => h n (List.mem_cons_of_mem _ hn)
    have hc := h c List.mem_cons_self
    show ((c + X * iv l X).natAbs : Int) + 1 ≤ X ^ (l.length + 1)
    have epw : X ^ (l.length + 1) = X * X ^ l.length := by rw [Int.pow_succ, Int.mul_comm]
    rw [epw]
    have h1 : ((c + X * iv l X).natAbs : Int) ≤ (c.natAbs : Int) + X * ((iv l X).natAbs : Int) := by
      have h2 := Int.natAbs_add_le c (X * iv l X)
      have h3 : (X * iv l X).natAbs = X.natAbs * (iv l X).natAbs := Int.natAbs_mul _ _
      have h4 : ((X.natAbs * (iv l X).natAbs : Nat) : Int) = X * ((iv l X).natAbs : Int) := by
        push_cast
        rw [Int.natAbs_of_nonneg (by omega)]
      omega
    have h5 := Int.mul_le_mul_of_nonneg_left ih (show 0 ≤ X by omega)
    rw [Int.mul_add] at h5
    omega
end Vx
namespace Vx
open PySem PySem.Spec PyProof.Rows L2
/-- a rest of none: it goes -/
theorem goes_iff {n q b r : List Rat} {S : Rat} (hS : S ≠ 0) (h : ∀ x, S * ev n x = ev q x * ev b x + ev r x) (tb : Tr b) (nb : b ≠ []) (tr : Tr r) (lr : r.length < b.length) : r = [] ↔ ∃ x : List Rat, ∀ z, ev n z = ev x z * ev b z := by
  constructor
  · rintro rfl
    refine ⟨smul (1 / S) q, fun z => ?_⟩
    have := h z
    rw [ev_smul]
    have e : ev ([] : List Rat) z = 0 := rfl
    rw [e] at this
    grind
  · rintro ⟨x, hx⟩
    refine len_of_mul tr tb nb (x := ladd (smul S x) (smul (-1) q)) (fun z => ?_) lr
    have := h z
    rw [hx] at this
    rw [ev_ladd, ev_smul, ev_smul]
    grind
theorem small_ne {f : List Int} {A : Nat} {X : Int} (tf : Tr (toR f)) (nf : f ≠ []) (hA : ∀ n ∈ f, n.natAbs ≤ A) (hX : 2 * (A : Int) + 3 ≤ X) : iv f X ≠ 0 := fun z => by
  have key := fun i => dig_uniq (X := X) (by omega) i f [] (fun n hn => by have := hA n hn; omega) (fun n hn => by cases hn) z
  have nfr : toR f ≠ [] := fun z => nf (toR_nil_iff.mp z)
  have h1 := tf nfr
  have h2 : f.getLast nf = 0 := by
    have := key (f.length - 1)
    have hp := List.length_pos_iff.mpr nf
    rw [List.getD_eq_getElem?_getD, List.getElem?_eq_getElem (by omega)] at this
    rw [List.getLast_eq_getElem]
    exact this
  have h3 : (toR f).getLast nfr = ((f.getLast nf : Int) : Rat) := by
    simp only [toR, List.getLast_map]
  rw [h3, h2] at h1
  exact h1 rfl
theorem pow_mono' {X : Int} (hX : 1 ≤ X) {i j : Nat} (h : i ≤ j) : X ^ i ≤ X ^ j := by
  obtain ⟨k, rfl⟩ := Nat.exists_eq_add_of_le h
  induction k with
  | zero => exact Int.le_refl _
  | succ k ih =>
    have h0 : 0 ≤ X ^ (i + k) := Int.pow_nonneg (by omega)
    have h1 := Int.mul_le_mul_of_nonneg_left hX h0
    have h2 : X ^ (i + (k + 1)) = X ^ (i + k) * X := Int.pow_succ _ _
    have h3 := ih (by omega)
    omega
/-- what both worths have in common is not 0 and below a power -/
theorem gcd_low {f g : List Int} {A B N : Nat} {X : Int} (tf : Tr (toR f)) (nf : f ≠ []) (tg : Tr (toR g)) (ng : g ≠ []) (hA : ∀ n ∈ f, n.natAbs ≤ A) (hB : ∀ n ∈ g, n.natAbs ≤ B)
    (hX : 2 * ((min A B : Nat) : Int) + 3 ≤ X) (hN : f.length + g.length ≤ N) : Nat.gcd (iv f X).natAbs (iv g X).natAbs ≠ 0 ∧ ((Nat.gcd (iv f X).natAbs (iv g X).natAbs : Nat) : Int) ≤ X ^ N := by
  rcases Nat.le_total A B with h | h
  · rw [Nat.min_eq_left h] at hX
    have h1 := small_ne tf nf hA hX
    have h2 := iv_pow (X := X) (by omega) f fun n hn => by have := hA n hn; omega
    have h3 := Nat.gcd_le_left (iv g X).natAbs (show 0 < (iv f X).natAbs by omega)
    have h4 := Nat.gcd_pos_of_pos_left (iv g X).natAbs (show 0 < (iv f X).natAbs by omega)
    have h5 := pow_mono' (X := X) (by omega) (show f.length ≤ N by omega)
    omega
  · rw [Nat.min_eq_right h] at hX
    have h1 := small_ne tg ng hB hX
    have h2 := iv_pow (X := X) (by omega) g fun n hn => by have := hB n hn; omega
    have h3 := Nat.gcd_le_right (iv f X).natAbs (show 0 < (iv g X).natAbs by omega)
    have h4 := Nat.gcd_pos_of_pos_right (iv f X).natAbs (show 0 < (iv g X).natAbs by omega)
    have h5 := pow_mono' (X := X) (by omega) (show g.length ≤ N by omega)
    omega
theorem found_ne {ds ms : List Int} {X : Int} (P : PrimOf ds ms) (h : iv ds X ≠ 0) : ms ≠ [] := fun z => by
  subst z
  obtain ⟨c, c0, hc⟩ := P.c
  have h1 := hc (X : Rat)
  rw [← iv_ev ds] at h1
  have h2 : ev (toR []) (X : Rat) = 0 := rfl
  rw [h2] at h1
  refine h ?_
  have : ((iv ds X : Int) : Rat) = 0 := by grind
  exact_mod_cast this
/-- at great numbers what is found goes into both; what goes into both is small -/
theorem shared_of {f g : List Int} {e l : Nat} (tf : Tr (toR f)) (nf : f ≠ []) (tg : Tr (toR g)) (ng : g ≠ []) (pf : Prim f) (hA : ∀ n ∈ f, n.natAbs ≤ 2 ^ e) (hB : ∀ n ∈ g, n.natAbs ≤ 2 ^ e) (hl : f.length + g.length ≤ 2 ^ l) :
    (∀ (ds ms : List Int) (X : Int), 2 * ((2 ^ bCof l e (f.length + g.length) : Nat) : Int) < X → (∀ x ∈ ds, -X < 2 * x ∧ 2 * x ≤ X) → iv ds X = ((Nat.gcd (iv f X).natAbs (iv g X).natAbs : Nat) : Int) → PrimOf ds ms →
      (∃ x : List Rat, ∀ z, ev (toR f) z = ev x z * ev (toR ms) z) ∧ (∃ y : List Rat, ∀ z, ev (toR g) z = ev y z * ev (toR ms) z)) ∧
    (∀ (ms : List Int), Prim ms → (∀ G', Gcd (toR f) (toR g) G' → ∃ k : Rat, k ≠ 0 ∧ G' = smul k (toR ms)) → ∀ n ∈ ms, n.natAbs ≤ 2 ^ bCof l e (f.length + g.length)) := by
  have nfr : toR f ≠ [] := fun z => nf (toR_nil_iff.mp z)
  obtain ⟨G', GG⟩ := gcd_ex tf tg (Or.inl nfr)
  obtain ⟨G, u, w, S, T, W, ρ, h1, h2, h3, h4, h5, h6, h7, k, k0, h8⟩ := rho_ex tf nf tg ng pf hA hB hl GG
  refine ⟨fun ds ms X hX hd hv P => finds h1 h2 h3 h4 h5 h6 hX hd hv P, fun ms pm h => ?_⟩
  obtain ⟨k', k0', h9⟩ := h G' GG
  refine prim_le pm (c := (ρ : Rat) * (k * k')) ?_ ?_ h6
  · have : (ρ : Rat) ≠ 0 := by exact_mod_cast h5
    have h10 : k * k' ≠ 0 := by
      intro z
      rcases Rat.mul_eq_zero.mp z with z | z
      · exact k0 z
      · exact k0' z
    intro z
    rcases Rat.mul_eq_zero.mp z with z | z
    · exact this z
    · exact h10 z
  · rw [h4, h8, h9]
    unfold smul
    rw [List.map_map, List.map_map]
    refine List.map_congr_left fun c _ => ?_
    show (ρ : Rat) * (k * (k' * c)) = _
    grind
end Vx
namespace Vx
open PySem PySem.Spec PyProof.Rows L2
local macro_rules | `(tactic| walk_at "cl") => `(tactic| first | assumption | exact Bz.mono (Bz.mul (by assumption) (by assumption)) (by decide) | rfl | omega | exact sz_of 0 rfl (by decide) | exact sz_of 1 rfl (by decide) | exact sz_of 2 rfl (by decide) | exact sz_of 3 rfl (by decide) | exact cmuly (by assumption) (by assumption) (by decide) | exact Bz.mono (Bz.mul (by assumption) (by assumption)) (by decide) | decide)
local macro_rules | `(tactic| walk_at "ex") => `(tactic| ((show Exists _); first | apply @Exists.intro V | apply @Exists.intro Int | apply @Exists.intro Addr | apply @Exists.intro (List V) | apply @Exists.intro Nat | apply @Exists.intro Str | apply @Exists.intro Bool | apply @Exists.intro (Option V) | apply @Exists.intro String | apply @Exists.intro Rat | apply @Exists.intro (List Rat)))
local macro_rules | `(tactic| walk_at "rd") => `(tactic| ((repeat (first | (walk_at "ex") | (apply And.intro; (focus (walk_at "cl"))))); (try dsimp only [])))
local macro_rules | `(tactic| walk_at "r0") => `(tactic| (repeat (first | (walk_at "ex") | (apply And.intro; (focus (walk_at "cl"))))))
theorem prim_ne {ns ms : List Int} {qs : List Rat} {D : Int} (h : PrimOf ns ms) (hD : 0 < D) (e : ns.map (fun (n : Int) => (n : Rat)) = qs.map ((D : Rat) * ·)) (tq : Tr qs) (hq : qs ≠ []) : ms ≠ [] := by
  intro z
  subst z
  obtain ⟨c, c0, hc⟩ := h.c
  refine hq (ev_inj tq tr_nil fun x => ?_)
  have h1 := hc x
  have h2 : ev (toR ns) x = (D : Rat) * ev qs x := by
    show ev (ns.map (fun (n : Int) => (n : Rat))) x = _
    rw [e, ev_scale]
  have h3 : (D : Rat) ≠ 0 := by exact_mod_cast (show D ≠ 0 by omega)
  rw [h2] at h1
  have h4 : ev (toR []) x = 0 := rfl
  rw [h4] at h1
  have h5 : ev [] x = 0 := rfl
  rw [h5]
  have h6 : c * (D : Rat) ≠ 0 := by grind
  have h7 : c * (D : Rat) * ev qs x = 0 := by grind
  rcases Rat.mul_eq_zero.mp h7 with h | h
  · exact absurd h h6
  · exact h
/-- what a row is over its primitive part -/
theorem prim_of {ns ms : List Int} {qs : List Rat} {D : Int} (h : PrimOf ns ms) (hD : 0 < D) (e : ns.map (fun (n : Int) => (n : Rat)) = qs.map ((D : Rat) * ·)) : ∃ c : Rat, c ≠ 0 ∧ ∀ x, ev (toR ms) x = c * ev qs x := by
  obtain ⟨c, c0, hc⟩ := h.c
  have h3 : (D : Rat) ≠ 0 := by exact_mod_cast (show D ≠ 0 by omega)
  refine ⟨c * D, by grind, fun x => ?_⟩
  rw [hc]
  show c * ev (ns.map (fun (n : Int) => (n : Rat))) x = _
  rw [e, ev_scale]
  grind
theorem lead_first {l : List Rat} {c k : Rat} (h : IsFirst l c) (hk : k ≠ 0) (ld : Lead1 (smul k l)) : k = 1 / c := by
  obtain ⟨c0, i, h1, h2⟩ := h
  obtain ⟨j, h3, h4⟩ := ld
  rw [at0_smul] at h3
  rcases Nat.lt_trichotomy i j with z | z | z
  · have := h4 i z
    rw [at0_smul, at0_some h1] at this
    rcases Rat.mul_eq_zero.mp this with z | z
    · exact absurd z hk
    · exact absurd z c0
  · subst z
    rw [at0_some h1] at h3
    grind
  · rw [h2 j z] at h3
    grind
section
variable {P : Program} {w : World} {K : PySem.W.Frag} {mg : Str → Option Value} {base : Heap}
theorem cd_lead {b : Nat} {f : List Int} {c0 : Rat} (hb : ∀ n ∈ f, Bz b n) (hf : IsFirst (toR f) c0) : Cd b b (smul (1 / c0) (toR f)) ∧ Qz b c0 := by
  obtain ⟨h0, i, h1, _⟩ := hf
  unfold toR at h1
  rw [List.getElem?_map] at h1
  obtain ⟨n0, e1, e2⟩ := Option.map_eq_some_iff.mp h1
  subst e2
  have hn0 : n0 ≠ 0 := fun z => h0 (by rw [z]; rfl)
  have z0 := hb n0 (List.mem_of_getElem? e1)
  have zq : Qz b (n0 : Rat) := ⟨z0, by
    have h9 : n0.natAbs < 2 ^ b := z0
    show (n0 : Rat).den < 2 ^ b
    have h8 : (n0 : Rat).den = 1 := rfl
    omega⟩
  refine ⟨⟨n0.natAbs, by omega, Nat.le_of_lt z0, fun x hx => ?_⟩, zq⟩
  obtain ⟨y, hy, rfl⟩ := List.mem_map.mp hx
  obtain ⟨n, hn, rfl⟩ := List.mem_map.mp hy
  rcases Int.natAbs_eq n0 with e | e
  · refine ⟨n, ?_, Nat.le_of_lt (hb n hn)⟩
    have e2 : ((n0.natAbs : Nat) : Rat) = (n0 : Rat) := by exact_mod_cast e.symm
    rw [e2]
    grind
  · refine ⟨-n, ?_, by rw [Int.natAbs_neg]; exact Nat.le_of_lt (hb n hn)⟩
    have e2 : ((n0.natAbs : Nat) : Rat) = -(n0 : Rat) := by
      have : ((n0.natAbs : Nat) : Int) = -n0 := by omega
      exact_mod_cast this
    rw [e2]
    push_cast
    grind
theorem tr_top {es : List Int} {t : Int} (h : Tr (toR (es ++ [t]))) : t ≠ 0 := fun z => by
  have e : toR (es ++ [t]) = toR es ++ [(t : Rat)] := by
    unfold toR
    rw [List.map_append]
    rfl
  rw [e] at h
  have := h (by intro z; exact absurd (List.append_eq_nil_iff.mp z).2 (List.cons_ne_nil _ _))
  rw [List.getLast_append_right (List.cons_ne_nil _ _)] at this
  exact this (by rw [z]; rfl)
theorem ev_div1 (l : List Rat) (x : Rat) : ev l x / ((1 : Int) : Rat) = ev l x := by
  have : ((1 : Int) : Rat) = 1 := rfl
  rw [this]
  grind
/-- whole_worth -/
def spWw (K : PySem.W.Frag) : Sp := fun vs H Q _ => ∃ (l : Addr) (ns : List Int) (X : Int) (a x : Nat), vs = [.ref l, .int X] ∧ SqL K H l (ns.map V.int) ∧ (∀ n ∈ ns, Bz a n) ∧ Bz x X ∧ a + (x + 1) * (ns.length + 1) ≤ 9000000 ∧ Q (.int (iv ns X)) H
theorem sc_whole_worth : FnScope ["numbers", "at", "worth", "number"] ["numbers", "at"] (defScope s_whole_worth) := ⟨rfl, rfl, rfl, by decide +kernel, rfl, by decide +kernel, by decide +kernel⟩
theorem d_whole_worth (W : FunIn K mg "whole_worth" s_whole_worth) (T : Blt mg) : Df P w K mg base "whole_worth" 33 ["numbers", "at"] (spWw K) := by
  obtain ⟨f, fd, F, hm⟩ := W
  refine ⟨f, fd, F.ok sc_whole_worth (fun vs H Q E h => ?_) (fun cdv A outer s H vs Q E hr h => ?_), hm, F.kp, F.binds fun _ _ _ _ _ _ us hl => match us, hl with | [_, _], _ => rfl⟩
  · obtain ⟨l, ns, X, a, x, rfl, _⟩ := h
    rfl
  · obtain ⟨l, ns, X, a, x, rfl, hl, zn, zX, hb, q⟩ := h
    have nd := sc_whole_worth.nd
    refine ⟨_, (pss_cons (ps_set (i := 2) nd rfl (Or.inl rfl) pe_int)
        (pss_cons (ps_for PassesOwn.never rfl (RT.pi_revA (by rfl) T.n_reversed (pv 0)) (pg_name (i := 3) nd rfl (Or.inl rfl) (Or.inr rfl)) (pss_one (ps_set (i := 2) nd rfl (Or.inl rfl) (pe_op op_add (pe_op op_mulX (pv 2) (pv 1)) (pv 3)))))
        (pss_one (ps_ret (pv 2))))), ?_⟩
    refine ⟨V.ref l, rfl, l, ns.map V.int, rfl, Or.inl ⟨hl, for_it walk_rev (fun i σ H' => ∃ (o : Option V), σ = [some (.ref l), some (.int X), some (.int (iv (ns.drop (ns.length - i)) X)), o] ∧ H' = H) ⟨none, ?_, rfl⟩ (fun i σ H' _ ⟨_, _, e⟩ => by rw [e]; exact hl) ?_ ?_⟩⟩
    · rw [Nat.sub_zero, List.drop_length]
      rfl
    · rintro i u σ H1 _ hi ⟨o, rfl, rfl⟩ ⟨rfl, hu⟩
      rw [List.length_map] at hu hi
      rw [List.getElem?_map] at hu
      obtain ⟨n, hn, rfl⟩ := Option.map_eq_some_iff.mp hu
      have hi1 : ns.length - 1 - i < ns.length := by omega
      have e1 : ns.drop (ns.length - (i + 1)) = n :: ns.drop (ns.length - i) := by
        have hk3 : ns.length - (i + 1) = ns.length - 1 - i := by omega
        rw [hk3, List.drop_eq_getElem_cons hi1, show ns.length - 1 - i + 1 = ns.length - i by omega]
        rw [List.getElem?_eq_getElem hi1] at hn
        rw [Option.some.inj hn]
      have zb := iv_bits zX (ns.drop (ns.length - i)) fun m hm => zn m (List.mem_of_mem_drop hm)
      have hle : a + (x + 1) * (ns.drop (ns.length - i)).length ≤ a + (x + 1) * ns.length := by
        have := Nat.mul_le_mul_left (x + 1) (show (ns.drop (ns.length - i)).length ≤ ns.length by rw [List.length_drop]; omega)
        omega
      rw [Nat.mul_add] at hb
      have c1 : CMulX (iv (ns.drop (ns.length - i)) X) X := cmuly zb zX (by omega)
      refine ⟨V.int (iv (ns.drop (ns.length - i)) X), rfl, V.int X, rfl, _, _, rfl, rfl, c1, V.int n, rfl, _, _, rfl, rfl, ?_⟩
      refine ⟨some (.int n), ?_, rfl⟩
      rw [e1]
      have e2 : iv (n :: ns.drop (ns.length - i)) X = iv (ns.drop (ns.length - i)) X * X + n := by
        show n + X * iv (ns.drop (ns.length - i)) X = _
        rw [Int.mul_comm, Int.add_comm]
      rw [e2]
      rfl
    · rintro σ H1 ⟨o, rfl, rfl⟩
      rw [List.length_map, Nat.sub_self, List.drop_zero]
      exact ⟨_, rfl, q⟩
theorem dig_step {X : Int} {y : Nat} (hX : 3 ≤ X) (hy : y ≠ 0) : ∃ (l : Int) (y' : Nat), (if 2 * ((y : Int) % X) > X then (y : Int) % X - X else (y : Int) % X) = l ∧ (-X < 2 * l ∧ 2 * l ≤ X) ∧ ((y : Int) - l).fdiv X = (y' : Int) ∧ (y : Int) = l + X * (y' : Int) ∧ y' < y := by
  have h0 := Int.emod_nonneg (y : Int) (show X ≠ 0 by omega)
  have h1 := Int.emod_lt_of_pos (y : Int) (show 0 < X by omega)
  have h2 := Int.mul_ediv_add_emod (y : Int) X
  have h3 : 0 ≤ (y : Int) / X := Int.ediv_nonneg (by omega) (by omega)
  generalize hq : (y : Int) / X = q at *
  generalize hr : (y : Int) % X = r at *
  have hfd : ∀ t : Int, (X * t).fdiv X = t := fun t => by
    rw [Int.fdiv_eq_ediv_of_nonneg _ (by omega)]
    exact Int.mul_ediv_cancel_left _ (by omega)
  have hq3 : 3 * q ≤ X * q := Int.mul_le_mul_of_nonneg_right hX h3
  by_cases hc : 2 * r > X
  · refine ⟨r - X, (q + 1).toNat, if_pos hc, by omega, ?_, ?_, ?_⟩
    · have : (y : Int) - (r - X) = X * (q + 1) := by
        rw [Int.mul_add]
        omega
      rw [this, hfd]
      omega
    · have : (((q + 1).toNat : Nat) : Int) = q + 1 := by omega
      rw [this, Int.mul_add]
      omega
    · omega
  · refine ⟨r, q.toNat, if_neg hc, by omega, ?_, ?_, ?_⟩
    · have : (y : Int) - r = X * q := by omega
      rw [this, hfd]
      omega
    · have : ((q.toNat : Nat) : Int) = q := by omega
      rw [this]
      omega
    · by_cases hq0 : q = 0
      · subst hq0
        omega
      · omega
theorem dig_pow {X l : Int} {y y' k : Nat} (hX : 3 ≤ X) (hl : -X < 2 * l ∧ 2 * l ≤ X) (h : (y : Int) = l + X * (y' : Int)) (hy : (y : Int) ≤ X ^ (k + 1)) : (y' : Int) ≤ X ^ k := by
  rw [Int.pow_succ] at hy
  refine Classical.byContradiction fun z => ?_
  have h1 := Int.mul_le_mul_of_nonneg_left (show X ^ k + 1 ≤ (y' : Int) by omega) (show 0 ≤ X by omega)
  rw [Int.mul_add, Int.mul_comm X (X ^ k)] at h1
  omega
theorem iv_snoc (l : List Int) (c X : Int) : iv (l ++ [c]) X = iv l X + X ^ l.length * c := by
  induction l with
  | nil =>
    show c + X * 0 = 0 + X ^ 0 * c
    rw [Int.pow_zero]
    omega
  | cons d l ih =>
    show d + X * iv (l ++ [c]) X = d + X * iv l X + X ^ (l.length + 1) * c
    rw [ih, Int.pow_succ, Int.mul_add, ← Int.mul_assoc, Int.mul_comm X (X ^ l.length)]
    omega
/-- whole_digits -/
def spWd (K : PySem.W.Frag) : Sp := fun vs H Q _ => ∃ (y : Nat) (X : Int) (k x : Nat), vs = [.int (y : Int), .int X] ∧ 3 ≤ X ∧ (y : Int) ≤ X ^ k ∧ k < 400 ∧ Bz x X ∧ x ≤ 4000000 ∧
  ∀ (p : Addr) (ds : List Int) H', H p = none → Same H H' → H' p = some (.lst (ds.map V.int)) → iv ds X = (y : Int) → (∀ d ∈ ds, -X < 2 * d ∧ 2 * d ≤ X) → ds.length ≤ k + 1 → Q (.ref p) H'
theorem sc_whole_digits : FnScope ["worth", "at", "numbers", "last"] ["worth", "at"] (defScope s_whole_digits) := ⟨rfl, rfl, rfl, by decide +kernel, rfl, by decide +kernel, by decide +kernel⟩
theorem d_whole_digits (W : FunIn K mg "whole_digits" s_whole_digits) (T : Blt mg) (sy : Sys base) (hP : P.given.tree = none) : Df P w K mg base "whole_digits" 33 ["worth", "at"] (spWd K) := by
  obtain ⟨f, fd, F, hm⟩ := W
  refine ⟨f, fd, F.ok sc_whole_digits (fun vs H Q E h => ?_) (fun cdv A outer s H vs Q E hr h => ?_), hm, F.kp, F.binds fun _ _ _ _ _ _ us hl => match us, hl with | [_, _], _ => rfl⟩
  · obtain ⟨y, X, k, x, rfl, _⟩ := h
    rfl
  · obtain ⟨y, X, k, x, rfl, hX, hyk, hk, zX, hx, q⟩ := h
    have nd := sc_whole_digits.nd
    refine ⟨_, (pss_cons (ps_set (i := 2) nd rfl (Or.inl rfl) (pe_lst pa_nil))
        (pss_cons (ps_while PassesOwn.never (pt_cmpR op_ne (pv 0) pe_int (nomark _)) (pss_cons (ps_set (i := 3) nd rfl (Or.inl rfl) (pe_op op_mod (pv 0) (pv 1)))
        (pss_cons (ps_if (pt_cmpR op_gt (pe_op op_mulX pe_int (pv 3)) (pv 1) (nomark _)) (pss_one (ps_aug (i := 3) nd rfl (Or.inl rfl) (pv 1) ip_sub)) pss_nil)
        (pss_cons (ps_expr (pe_bm PySem.F.plainAttrs_list PySem.F.slot_list_append PySem.F.type_list_append mt_append (pv 2) (pa_cons (pv 3) pa_nil)))
        (pss_one (ps_set (i := 0) nd rfl (Or.inl rfl) (pe_op (op_fdivY sy (hr.mono (by decide)) hP ⟨_, _, rfl, rfl, rfl, rfl, rfl⟩) (pe_op op_sub (pv 0) (pv 3)) (pv 1))))))))
        (pss_one (ps_ret (pv 2))))), ?_⟩
    refine ⟨Nat.zero_le _, fun p hp => ?_⟩
    have s1 := same_new (o := .lst []) hp
    have e1 : upd H p (.lst []) p = some (.lst []) := upd_same
    generalize upd H p (.lst []) = H1 at s1 e1
    refine ⟨fun m σ H' => ∃ (ds : List Int) (o : Option V), σ = [some (.int (m : Int)), some (.int X), some (.ref p), o] ∧ Same H H' ∧ H' p = some (.lst (ds.map V.int)) ∧ iv ds X + X ^ ds.length * (m : Int) = (y : Int) ∧ (∀ d ∈ ds, -X < 2 * d ∧ 2 * d ≤ X) ∧ ds.length ≤ k + 1 ∧ (ds.length ≤ k → (m : Int) ≤ X ^ (k - ds.length)) ∧ (ds.length = k + 1 → m = 0), ⟨y, [], none, rfl, s1, e1, by show (0 : Int) + X ^ 0 * (y : Int) = _; rw [Int.pow_zero]; omega, fun d hd => (by cases hd), Nat.zero_le _, fun _ => hyk, fun h => by cases h⟩, ?_⟩
    rintro m σ H' ⟨ds, o, rfl, s2, e2, hv, hd, hl, hm1, hm2⟩
    refine ⟨V.int (m : Int), rfl, rfl, _, rfl, ?_⟩
    refine tifn (fun hm => ?_) (fun hm => ?_)
    · have hm0 : m ≠ 0 := fun z => hm (by rw [z]; rfl)
      obtain ⟨l, m', hl1, hl2, hl3, hl4, hl5⟩ := dig_step hX hm0
      have hlk : ds.length ≤ k := by
        refine Classical.byContradiction fun z => hm0 (hm2 (by omega))
      have zr : Bz x ((m : Int) % X) := by
        have h0 := Int.emod_nonneg (m : Int) (show X ≠ 0 by omega)
        have h1 := Int.emod_lt_of_pos (m : Int) (show 0 < X by omega)
        have h2 : X.natAbs < 2 ^ x := zX
        show ((m : Int) % X).natAbs < 2 ^ x
        omega
      have z2 : Bz 2 (2 : Int) := by unfold Bz; decide
      have c1 : CMulX 2 ((m : Int) % X) := cmuly z2 zr (by omega)
      refine ⟨fun σ' H'' => ∃ (o : Option V), σ' = [some (.int (m' : Int)), some (.int X), some (.ref p), o] ∧ Same H H'' ∧ H'' p = some (.lst ((ds ++ [l]).map V.int)), ?_, ?_⟩
      · rintro σ' H'' ⟨o, rfl, s3, e3⟩
        refine ⟨m', hl5, ds ++ [l], o, rfl, s3, e3, ?_, fun d h => ?_, by rw [List.length_append, List.length_singleton]; omega, fun h => ?_, fun h => ?_⟩
        · rw [iv_snoc, List.length_append, List.length_singleton, ← hv, Int.pow_succ, hl4, Int.mul_add, ← Int.mul_assoc]
          omega
        · rcases List.mem_append.mp h with h | h
          · exact hd d h
          · rw [List.mem_singleton.mp h]
            exact hl2
        · rw [List.length_append, List.length_singleton] at h ⊢
          refine dig_pow hX hl2 hl4 ?_
          rw [show k - (ds.length + 1) + 1 = k - ds.length by omega]
          exact hm1 hlk
        · rw [List.length_append, List.length_singleton] at h
          have h1 := hm1 hlk
          rw [show k - ds.length = 0 by omega, Int.pow_zero] at h1
          have : m = 1 := by omega
          omega
      · refine ⟨V.int (m : Int), rfl, V.int X, rfl, _, _, rfl, rfl, ?_⟩
        refine ⟨by show (0 : Int) < X; omega, ?_⟩
        show gName 3 _ _ _ _
        unfold gName
        dsimp only []
        refine seq_cut (fun σ' H'' => σ' = [some (.int (m : Int)), some (.int X), some (.ref p), some (.int l)] ∧ H'' = H') (fun nx hnx => ?_) ?_
        · refine ⟨V.int ((m : Int) % X), rfl, _, _, rfl, rfl, c1, V.int X, rfl, _, _, rfl, rfl, _, rfl, ?_⟩
          refine tif (fun hc => ?_) (fun hc => ?_)
          · refine ⟨V.int ((m : Int) % X), rfl, V.int X, rfl, _, _, rfl, rfl, ?_⟩
            refine hnx _ _ ⟨?_, rfl⟩
            rw [← hl1, if_pos hc]
            rfl
          · refine hnx _ _ ⟨?_, rfl⟩
            rw [← hl1, if_neg hc]
            rfl
        rintro σ1 H2 ⟨rfl, rfl⟩
        have s3 : Same H (upd H2 p (.lst ((ds ++ [l]).map V.int))) := fun c o e => by rw [upd_ne (ne_of_none e hp)]; exact s2 _ _ e
        refine ⟨V.ref p, rfl, Or.inl ⟨rfl, _, SqL.of e2⟩, V.int l, rfl, p, ds.map V.int, V.int l, rfl, rfl, e2, by rw [sizeLine_eq, List.length_map]; omega, ?_⟩
        have e3 : upd H2 p (.lst (ds.map V.int ++ [V.int l])) p = some (.lst (ds.map V.int ++ [V.int l])) := upd_same
        rw [List.map_append] at s3
        refine ⟨V.int (m : Int), rfl, V.int l, rfl, _, _, rfl, rfl, V.int X, rfl, _, _, rfl, rfl, ?_, ?_⟩
        · show X ≠ 0
          omega
        · refine ⟨some (V.int l), ?_, s3, ?_⟩
          · rw [← hl3]
            rfl
          · rw [List.map_append]
            exact e3
    · have hm0 : m = 0 := by
        have := V.int.inj hm
        omega
      subst hm0
      refine ⟨_, rfl, q p ds _ hp s2 e2 ?_ hd hl⟩
      rw [← hv]
      show _ = _ + _ * (0 : Int)
      omega
end
end Vx
namespace Vx
open PySem PySem.Spec PyProof.Rows L2
theorem depth_ints (ns : List Int) : PyData.depthAll (ns.map PyData.int) = 0 := by
  induction ns with
  | nil => rfl
  | cons n ns ih => simp [PyData.depthAll, PyData.depth, ih]
theorem canLay_ints (ns : List Int) : PyData.canLayAll0 (ns.map PyData.int) = true := by
  induction ns with
  | nil => rfl
  | cons n ns ih => simp [PyData.canLayAll0, PyData.canLay0, ih]
theorem shaped_ints (ns : List Int) : SeqAt.shaped (PyData.list (ns.map PyData.int)) = true := by
  unfold SeqAt.shaped
  simp [PyData.canLay0, PyData.depth, depth_ints, canLay_ints]
theorem dp_intsA {K : PySem.W.Frag} {H : Hp} : ∀ ns : List Int, DpAll K H (ns.map V.int) (ns.map PyData.int)
  | [] => .nil
  | n :: ns => .cons (.int n) (dp_intsA ns)
theorem eqv_ints_nil (ns : List Int) : (PyData.list (ns.map PyData.int)).eqv (.list []) = decide (ns = []) := by
  cases ns with
  | nil => rfl
  | cons n ns => simp [PyData.eqv, PyData.eqvAll]
theorem rEqD_ints {K : PySem.W.Frag} {H : Hp} {x y : Addr} {ns : List Int} {Q : VK} (hx : SqL K H x (ns.map V.int)) (hy : SqL K H y []) (h : Q (.bl (decide (ns = []))) H) : rEqD K (.ref x) (.ref y) H Q :=
  ⟨.list (ns.map PyData.int), .list [], .lst hx (dp_intsA ns), .lst hy .nil, shaped_ints ns, rfl, by rw [eqv_ints_nil]; exact h⟩
theorem rNeD_ints {K : PySem.W.Frag} {H : Hp} {x y : Addr} {ns : List Int} {Q : VK} (hx : SqL K H x (ns.map V.int)) (hy : SqL K H y []) (h : Q (.bl (!decide (ns = []))) H) : rNeD K (.ref x) (.ref y) H Q :=
  ⟨.list (ns.map PyData.int), .list [], .lst hx (dp_intsA ns), .lst hy .nil, shaped_ints ns, rfl, by rw [eqv_ints_nil]; exact h⟩
end Vx
namespace Vx
open PySem PySem.Spec PyProof.Rows L2
local macro_rules | `(tactic| walk_at "cl") => `(tactic| first | assumption | exact Bz.mono (Bz.mul (by assumption) (by assumption)) (by decide) | rfl | omega | exact sz_of 0 rfl (by decide) | exact sz_of 1 rfl (by decide) | exact sz_of 2 rfl (by decide) | exact sz_of 3 rfl (by decide) | exact cmuly (by assumption) (by assumption) (by decide) | exact Bz.mono (Bz.mul (by assumption) (by assumption)) (by decide) | decide)
local macro_rules | `(tactic| walk_at "ex") => `(tactic| ((show Exists _); first | apply @Exists.intro V | apply @Exists.intro Int | apply @Exists.intro Addr | apply @Exists.intro (List V) | apply @Exists.intro Nat | apply @Exists.intro Str | apply @Exists.intro Bool | apply @Exists.intro (Option V) | apply @Exists.intro String | apply @Exists.intro Rat | apply @Exists.intro (List Rat)))
local macro_rules | `(tactic| walk_at "rd") => `(tactic| ((repeat (first | (walk_at "ex") | (apply And.intro; (focus (walk_at "cl"))))); (try dsimp only [])))
local macro_rules | `(tactic| walk_at "r0") => `(tactic| (repeat (first | (walk_at "ex") | (apply And.intro; (focus (walk_at "cl"))))))
section
variable {P : Program} {w : World} {K : PySem.W.Frag} {mg : Str → Option Value} {base : Heap}
/-- goes_into -/
def spGoes (K : PySem.W.Frag) : Sp := fun vs H Q _ => ∃ (l1 l2 : Addr) (ms ns : List Int) (b m : Nat), vs = [.ref l1, .ref l2] ∧ SqL K H l1 (ms.map V.int) ∧ SqL K H l2 (ns.map V.int) ∧ ms ≠ [] ∧ Tr (toR ms) ∧ (∀ n ∈ ns, Bz b n) ∧ (∀ n ∈ ms, Bz m n) ∧ 0 < b ∧ m ≤ 900000 ∧ b + ns.length * (m + 1) + m ≤ 5000000 ∧ ns.length < 500 ∧ ms.length < 500 ∧
  ∀ (t : Bool) H', Same H H' → (t = true ↔ ∃ x : List Rat, ∀ z, ev (toR ns) z = ev x z * ev (toR ms) z) → Q (.bl t) H'
theorem sc_goes_into : FnScope ["by", "numbers"] ["by", "numbers"] (defScope s_goes_into) := ⟨rfl, rfl, rfl, by decide +kernel, rfl, by decide +kernel, by decide +kernel⟩
theorem d_goes_into (W : FunIn K mg "goes_into" s_goes_into) (Dwithout_end : Df P w K mg base "without_end" 33 ["numbers", "nought"] (spEndI K)) (Dwhole_split : Df P w K mg base "whole_split" 33 ["numbers", "by"] (spWSplit K)) : Df P w K mg base "goes_into" 34 ["by", "numbers"] (spGoes K) := by
  obtain ⟨f, fd, F, hm⟩ := W
  refine ⟨f, fd, F.ok sc_goes_into (fun vs H Q E h => ?_) (fun cdv A outer s H vs Q E hr h => ?_), hm, F.kp, F.binds fun _ _ _ _ _ _ us hl => match us, hl with | [_, _], _ => rfl⟩
  · obtain ⟨l1, l2, ms, ns, b, m, rfl, _⟩ := h
    rfl
  · obtain ⟨l1, l2, ms, ns, b, m, rfl, h1, h2, hm0, tm, zb, zm, b0, hm9, hb5, ln, lm, q⟩ := h
    have nd := sc_goes_into.nd
    refine ⟨_, (pss_one (ps_ret (pe_cmpR (op_eqD (hu64 hr)) (pe_d Dwithout_end (hr.mono (by decide)) rfl (pa_cons (pe_ix ix_tup (pe_d Dwhole_split (hr.mono (by decide)) rfl (pa_cons (pv 1) (pa_cons (pv 0) pa_nil))) pe_int (fun _ _ => rfl)) (pa_cons pe_int pa_nil))) (pe_lst pa_nil) (nomark _)))), ?_⟩
    obtain ⟨es, top, rfl⟩ : ∃ es top, ms = es ++ [top] := ⟨ms.dropLast, ms.getLast hm0, (List.dropLast_concat_getLast hm0).symm⟩
    have les : (es ++ [top]).length = es.length + 1 := by rw [List.length_append]; rfl
    refine ⟨V.ref l2, rfl, V.ref l1, rfl, l2, l1, ns, es, top, b, m, ns.length, rfl, h2, h1, tr_top tm, zb, zm, b0, by omega, by omega, by omega, by omega, by omega, fun t qa ra qq rr S H1 s1 ht hq hr' S0 hev lr1 lr2 lq zq zr zS => ?_⟩
    have hat : atI [V.ref qa, V.ref ra, V.int S] 1 = some (V.ref ra) := rfl
    refine ⟨t, _, 1, _, rfl, rfl, ht, hat, ?_⟩
    refine ⟨ra, rr, rfl, SqL.of hr', by omega, fun p k H2 hp s2 e2 hk tk hz => ?_⟩
    refine ⟨Nat.zero_le _, fun p2 hp2 => ?_⟩
    have s3 := same_new (o := .lst []) hp2
    have e3 : upd H2 p2 (.lst []) p2 = some (.lst []) := upd_same
    have e2' := s3 _ _ e2
    generalize upd H2 p2 (.lst []) = H3 at s3 e3 e2'
    refine rEqD_ints (SqL.of e2') (SqL.of e3) (q _ _ ((s1.trans s2).trans s3) ?_)
    have S0r : (S : Rat) ≠ 0 := by exact_mod_cast S0
    have hnr : toR (es ++ [top]) ≠ [] := fun z => hm0 (toR_nil_iff.mp z)
    have hlk : (toR (rr.take k)).length < (toR (es ++ [top])).length := by
      rw [toR_len, toR_len, List.length_take]
      omega
    have hek : ∀ z, ev (toR (rr.take k)) z = ev (toR rr) z := fun z => by
      have e5 : toR rr = toR (rr.take k) ++ toR (rr.drop k) := by
        unfold toR
        rw [← List.map_append, List.take_append_drop]
      have e6 : rr.drop k = List.replicate (rr.drop k).length 0 := List.eq_replicate_of_mem hz
      rw [e5, ev_append, e6, toR_rep]
      grind
    have key := goes_iff (n := toR ns) (q := toR qq) (b := toR (es ++ [top])) (r := toR (rr.take k)) S0r (fun x => by rw [hek]; exact hev x) tm hnr tk hlk
    rw [decide_eq_true_iff, ← toR_nil_iff]
    exact key
theorem mx_abs {te : TE} {l1 l2 l : Addr} {H : Hp} {Q : VK} {ns : List Int} {o2 o3 o4 : Option V} (ht : ∀ (H : Hp) (R : VK), R (.ref l) H → te [some (.ref l1), some (.ref l2), o2, o3, o4] H R) (hl : SqL K H l (ns.map V.int)) (hn : ns ≠ []) (len : ns.length < 1000)
    (h : ∀ (A : Nat) H', Same H H' → (∀ n ∈ ns, n.natAbs ≤ A) → (∃ n ∈ ns, n.natAbs = A) → Q (.int (A : Int)) H') :
    (tCB (rMax K) (tCons (tLc (iList K te) (gName 3) tYes (tCB (fun xs H Q => ∃ i, xs = [V.int i] ∧ Q (V.int (if i < 0 then -i else i)) H) (tCons (tVar 3) tNil)) [3]) tNil)) [some (.ref l1), some (.ref l2), o2, o3, o4] H Q := by
  refine ht _ _ ⟨l, rfl, ⟨_, hl⟩, fun D hD => lc_map (walk_list (K := K) (a := l) (xs := ns.map V.int)) hD (by rw [List.length_map, sizeLine_eq]; omega) (fun i _ v => ∃ c : Int, ns[i]? = some c ∧ v = .int ((c.natAbs : Nat) : Int)) (fun _ _ _ _ _ h => h) (fun H1 s1 => s1.seq hl) ?_ ?_⟩
  · rintro i u H1 H2 hi s1 _ ⟨rfl, hu⟩ Fin hF
    rw [List.getElem?_map] at hu
    obtain ⟨n, hn, rfl⟩ := Option.map_eq_some_iff.mp hu
    refine ⟨rfl, V.int n, rfl, n, rfl, ?_⟩
    refine hF _ _ (Same.refl _) ⟨n, hn, ?_⟩
    have : (if n < 0 then -n else n) = ((n.natAbs : Nat) : Int) := by split <;> omega
    rw [this]
  · intro H1 acc s1 hacc hlen1 hel
    have hex : acc = (ns.map fun n => ((n.natAbs : Nat) : Int)).map V.int := by
      refine List.ext_getElem? fun i => ?_
      rw [List.length_map] at hlen1
      by_cases hi : i < acc.length
      · obtain ⟨c, hc, hv⟩ := hel i _ (List.getElem?_eq_getElem hi)
        rw [List.getElem?_eq_getElem hi, hv, List.getElem?_map, List.getElem?_map, hc]
        rfl
      · rw [List.getElem?_eq_none (by omega), List.getElem?_eq_none (by simp only [List.length_map]; omega)]
    rw [hex] at hacc
    refine ⟨D, _, rfl, SqL.of hacc, by rw [List.length_map]; exact List.length_pos_iff.mpr hn, fun m hm hmx => ?_⟩
    obtain ⟨n, hn1, rfl⟩ := List.mem_map.mp hm
    refine h n.natAbs H1 s1 (fun k hk => ?_) ⟨n, hn1, rfl⟩
    have := hmx _ (List.mem_map.mpr ⟨k, hk, rfl⟩)
    omega
theorem bc_mono (l e : Nat) {i j : Nat} (h : i ≤ j) : bCof l e i ≤ bCof l e j := by
  unfold bCof
  have := Nat.mul_le_mul_left (l + e) h
  omega
theorem if_yes' {A B : Prop} (q : A) : if true = true then A else B := by
  rw [if_pos rfl]
  exact q
/-- whole_shared -/
def spWSh (K : PySem.W.Frag) : Sp := fun vs H Q _ => ∃ (l1 l2 : Addr) (f g : List Int) (e l N : Nat), vs = [.ref l1, .ref l2] ∧ SqL K H l1 (f.map V.int) ∧ SqL K H l2 (g.map V.int) ∧ f ≠ [] ∧ g ≠ [] ∧ Tr (toR f) ∧ Tr (toR g) ∧ Prim f ∧ (∀ n ∈ f, Bz e n) ∧ (∀ n ∈ g, Bz e n) ∧ 0 < e ∧ f.length + g.length ≤ N ∧ N ≤ 2 ^ l ∧ N < 400 ∧ e + (2 * bCof l e N + 5) * (N + 2) ≤ 4000000 ∧ bCof l e N ≤ 400000 ∧
  ∀ (p : Addr) (ms : List Int) H', Same H H' → H' p = some (.lst (ms.map V.int)) → ms ≠ [] → Tr (toR ms) → Prim ms → (∀ n ∈ ms, Bz (bCof l e N + 1) n) → (∀ G', Gcd (toR f) (toR g) G' → ∃ k : Rat, k ≠ 0 ∧ G' = smul k (toR ms)) → Q (.ref p) H'
theorem sc_whole_shared : FnScope ["first", "second", "at", "x", "found"] ["first", "second"] (defScope s_whole_shared) := ⟨rfl, rfl, rfl, by decide +kernel, rfl, by decide +kernel, by decide +kernel⟩
theorem d_whole_shared (W : FunIn K mg "whole_shared" s_whole_shared) (T : Blt mg) (Dprimitive : Df P w K mg base "primitive" 35 ["numbers"] (spPrim K)) (Dwhole_worth : Df P w K mg base "whole_worth" 33 ["numbers", "at"] (spWw K)) (Dwhole_digits : Df P w K mg base "whole_digits" 33 ["worth", "at"] (spWd K)) (Dgoes_into : Df P w K mg base "goes_into" 34 ["by", "numbers"] (spGoes K)) : Df P w K mg base "whole_shared" 36 ["first", "second"] (spWSh K) := by
  obtain ⟨f, fd, F, hm⟩ := W
  refine ⟨f, fd, F.ok sc_whole_shared (fun vs H Q E h => ?_) (fun cdv A outer s H vs Q E hr h => ?_), hm, F.kp, F.binds fun _ _ _ _ _ _ us hl => match us, hl with | [_, _], _ => rfl⟩
  · obtain ⟨l1, l2, f, g, e, l, N, rfl, _⟩ := h
    rfl
  · obtain ⟨l1, l2, fl, g, e, l, N, rfl, h1, h2, nf, ng, tf, tg, pf, zf, zg, e0, hN, hl, hN4, hb, hb4, q⟩ := h
    have nd := sc_whole_shared.nd
    refine ⟨_, (pss_cons (ps_set (i := 2) nd rfl (Or.inl rfl) (pe_op op_add (pe_op op_mulX pe_int (pe_callB (call_min2 rfl) (by rfl) T.n_min (by decide +kernel) (pa_cons (pe_callB (cr_max rfl) (by rfl) T.n_max (by decide +kernel) (pa_cons (pe_lc (own := [("x", 3)]) rfl nd (pi_list (pv 0)) (blkOk_by (own := [("x", 3)]) (N := ["first", "second", "at", "x", "found"]) (sc := defScope s_whole_shared) (by decide +kernel)) (fun _ _ _ _ _ => (pg_name (i := 3) nd rfl (Or.inl rfl) (Or.inr rfl))) (fun _ _ _ _ _ => pts_nil) (fun _ _ _ _ _ => (pe_callB call_abs (by rfl) T.n_abs (by decide +kernel) (pa_cons (pv 3) pa_nil)))) pa_nil)) (pa_cons (pe_callB (cr_max rfl) (by rfl) T.n_max (by decide +kernel) (pa_cons (pe_lc (own := [("x", 3)]) rfl nd (pi_list (pv 1)) (blkOk_by (own := [("x", 3)]) (N := ["first", "second", "at", "x", "found"]) (sc := defScope s_whole_shared) (by decide +kernel)) (fun _ _ _ _ _ => (pg_name (i := 3) nd rfl (Or.inl rfl) (Or.inr rfl))) (fun _ _ _ _ _ => pts_nil) (fun _ _ _ _ _ => (pe_callB call_abs (by rfl) T.n_abs (by decide +kernel) (pa_cons (pv 3) pa_nil)))) pa_nil)) pa_nil)))) pe_int))
        (pss_one (ps_while PassesOwn.never (pt_val pe_bl) (pss_cons (ps_set (i := 4) nd rfl (Or.inl rfl) (pe_d Dprimitive (hr.mono (by decide)) rfl (pa_cons (pe_d Dwhole_digits (hr.mono (by decide)) rfl (pa_cons (pe_callBfun cr_gcd (by rfl) T.g_gcd (pa_cons (pe_d Dwhole_worth (hr.mono (by decide)) rfl (pa_cons (pv 0) (pa_cons (pv 2) pa_nil))) (pa_cons (pe_d Dwhole_worth (hr.mono (by decide)) rfl (pa_cons (pv 1) (pa_cons (pv 2) pa_nil))) pa_nil))) (pa_cons (pv 2) pa_nil))) pa_nil)))
        (pss_cons (ps_if (PW.pt (pw_and (pt_val (pe_d Dgoes_into (hr.mono (by decide)) rfl (pa_cons (pv 4) (pa_cons (pv 0) pa_nil)))) (pw_and1 (pt_val (pe_d Dgoes_into (hr.mono (by decide)) rfl (pa_cons (pv 4) (pa_cons (pv 1) pa_nil))))))) (pss_one (ps_ret (pv 4))) pss_nil)
        (pss_one (ps_set (i := 2) nd rfl (Or.inl rfl) (pe_op op_mulX (pv 2) (pv 2))))))))), ?_⟩
    have hT0 : ∀ (i : Nat) (x : V) (σ : L2.St), σ[i]? = some (some x) → ∀ (H : Hp) (R : VK), R x H → tVar i σ H R := fun i x σ e H R h => ⟨x, e, h⟩
    refine mx_abs (K := K) (te := tVar 0) (hT0 0 _ _ rfl) h1 nf (by omega) (fun A H1 s1 hA eA => ?_)
    refine mx_abs (K := K) (te := tVar 1) (hT0 1 _ _ rfl) (s1.seq h2) ng (by omega) (fun B H2 s2 hB eB => ?_)
    have hmin : (if (B : Int) < (A : Int) then (B : Int) else (A : Int)) = ((min A B : Nat) : Int) := by split <;> omega
    have hAe : A < 2 ^ e := by
      obtain ⟨n, hn, rfl⟩ := eA
      exact zf n hn
    have zmin : Bz e ((min A B : Nat) : Int) := by
      show (((min A B : Nat) : Int)).natAbs < 2 ^ e
      omega
    have z2 : Bz 2 (2 : Int) := by unfold Bz; decide
    have hbe : e ≤ bCof l e N := by unfold bCof; omega
    generalize hβ : bCof l e N = β at hb hb4 hbe q
    have hm1 : (2 * β + 5) * (N + 2) = (2 * β + 5) * N + (2 * β + 5) * 2 := Nat.mul_add _ _ _
    have hbN : 2 * β + 5 ≤ 800005 := by omega
    have cM : CMulX 2 ((min A B : Nat) : Int) := cmuly z2 zmin (by omega)
    refine ⟨(A : Int), (B : Int), rfl, _, _, rfl, rfl, by rw [hmin]; exact cM, _, _, rfl, rfl, ?_⟩
    rw [hmin]
    have s12 := s1.trans s2
    have pβ := Nat.two_pow_pos β
    have pe : 2 ^ e ≤ 2 ^ β := Nat.pow_le_pow_right (by decide) hbe
    have hbc := bc_mono l e (show fl.length + g.length ≤ N from hN)
    rw [hβ] at hbc
    have pbc : 2 ^ bCof l e (fl.length + g.length) ≤ 2 ^ β := Nat.pow_le_pow_right (by decide) hbc
    obtain ⟨sh1, sh2⟩ := shared_of (e := e) (l := l) tf nf tg ng pf (fun n hn => Nat.le_of_lt (zf n hn)) (fun n hn => Nat.le_of_lt (zg n hn)) (by omega)
    have hA' : ∀ n ∈ fl, n.natAbs ≤ A := hA
    have hmul : ∀ k : Nat, k ≤ N → (2 * β + 4) * (k + 1) + e ≤ 4000000 := fun k hk => by
      have := Nat.mul_le_mul (show 2 * β + 4 ≤ 2 * β + 5 by omega) (show k + 1 ≤ N + 2 by omega)
      omega
    have hfin : ∀ k : Nat, k ≤ N → e + k * (2 * β + 3 + 1) + (2 * β + 3) ≤ 5000000 := fun k hk => by
      have h1 := hmul k hk
      rw [Nat.mul_add, Nat.mul_comm] at h1
      have h2 : k * (2 * β + 3 + 1) = k * (2 * β + 4) := rfl
      omega
    refine ⟨fun m σ H' => ∃ (X : Int) (o3 o4 : Option V), σ = [some (.ref l1), some (.ref l2), some (.int X), o3, o4] ∧ Same H H' ∧ 2 * ((min A B : Nat) : Int) + 3 ≤ X ∧ Bz (2 * β + 3) X ∧ (m : Int) = ((2 * (2 : Int) ^ β + 3 - X).toNat : Int), ⟨_, _, none, none, rfl, s12, Int.le_refl _, ?_, rfl⟩, ?_⟩
    · have h3 : 2 ^ (2 * β + 3) = 2 ^ β * 2 ^ (β + 3) := by rw [← Nat.pow_add]; congr 1; omega
      have h4 : 2 ^ (β + 3) = 2 ^ β * 8 := Nat.pow_add _ _ _
      have h5 : 2 ^ β * 8 ≤ 2 ^ β * 2 ^ (β + 3) := by
        rw [← h4]
        exact Nat.le_mul_of_pos_left _ pβ
      show (2 * ((min A B : Nat) : Int) + 3).natAbs < 2 ^ (2 * β + 3)
      omega
    rintro m σ H3 ⟨X, o3, o4, rfl, s3, hX, zX, hm⟩
    refine ⟨true, rfl, if_yes' ?_⟩
    have pz : ((2 ^ β : Nat) : Int) = (2 : Int) ^ β := by push_cast; rfl
    have hX3 : 3 ≤ X := by omega
    refine ⟨fun σ' H'' => ∃ o3 o4 : Option V, σ' = [some (.ref l1), some (.ref l2), some (.int (X * X)), o3, o4] ∧ Same H H'' ∧ X ≤ 2 * ((2 ^ β : Nat) : Int), ?_, ?_⟩
    · rintro σ' H'' ⟨p3, p4, rfl, s4, hle⟩
      have h6 : 3 * X ≤ X * X := Int.mul_le_mul_of_nonneg_right hX3 (by omega)
      refine ⟨(2 * (2 : Int) ^ β + 3 - X * X).toNat, by omega, X * X, p3, p4, rfl, s4, by omega, ?_, rfl⟩
      have h7 : X * X ≤ (2 * ((2 ^ β : Nat) : Int)) * (2 * ((2 ^ β : Nat) : Int)) := Int.mul_le_mul hle hle (by omega) (by omega)
      have h8 : 2 ^ (2 * β + 3) = 8 * (2 ^ β * 2 ^ β) := by
        rw [Nat.pow_add, Nat.two_mul, Nat.pow_add, Nat.mul_comm]
      have h9 : (2 * ((2 ^ β : Nat) : Int)) * (2 * ((2 ^ β : Nat) : Int)) = 4 * ((2 ^ β * 2 ^ β : Nat) : Int) := by
        push_cast
        grind
      have h10 : 0 < 2 ^ β * 2 ^ β := Nat.mul_pos pβ pβ
      show (X * X).natAbs < 2 ^ (2 * β + 3)
      rw [h8]
      generalize 2 ^ β * 2 ^ β = t at h9 h10
      omega
    have hL1 := s3.seq h1
    have hL2 := s3.seq h2
    refine ⟨V.ref l1, rfl, V.int X, rfl, l1, fl, X, e, 2 * β + 3, rfl, hL1, zf, zX, ?_, ?_⟩
    · have := hmul fl.length (by omega)
      rw [Nat.add_comm]
      exact Nat.le_trans this (by decide)
    refine ⟨V.ref l2, rfl, V.int X, rfl, l2, g, X, e, 2 * β + 3, rfl, hL2, zg, zX, ?_, ?_⟩
    · have := hmul g.length (by omega)
      rw [Nat.add_comm]
      exact Nat.le_trans this (by decide)
    obtain ⟨y0, yN⟩ := gcd_low tf nf tg ng hA hB hX hN
    refine ⟨iv fl X, iv g X, rfl, ?_⟩
    refine ⟨V.int X, rfl, _, X, N, 2 * β + 3, rfl, hX3, yN, hN4, zX, by omega, fun p ds H4 hp s4 e4 hv hd hdl => ?_⟩
    have zds : ∀ n ∈ ds, Bz (2 * β + 3) n := fun n hn => by
      have h6 := hd n hn
      have h7 : X.natAbs < 2 ^ (2 * β + 3) := zX
      show n.natAbs < 2 ^ (2 * β + 3)
      omega
    refine ⟨p, ds, 2 * β + 3, rfl, SqL.of e4, zds, by omega, by omega, fun p2 ms H5 hp2 s5 e5 PP zms lms => ?_⟩
    have nms : ms ≠ [] := found_ne PP (X := X) (by rw [hv]; omega)
    have s345 : Same H H5 := s3.trans (s4.trans s5)
    have s45 : Same H3 H5 := s4.trans s5
    show gName 4 _ _ _ _
    unfold gName
    dsimp only []
    refine seq_cut (fun σ' H'' => σ' = [some (.ref l1), some (.ref l2), some (.int X), o3, some (.ref p2)] ∧ Same H H'' ∧ X ≤ 2 * ((2 ^ β : Nat) : Int)) (fun nx hnx => ?_) ?_
    · refine ⟨V.ref p2, rfl, V.ref l1, rfl, p2, l1, ms, fl, e, 2 * β + 3, rfl, SqL.of e5, s345.seq h1, nms, PP.tr, zf, zms, e0, by omega, hfin _ (by omega), by omega, by omega, fun t1 H6 s6 ht1 => ?_⟩
      have hback : ¬ (t1 = true ∧ ∃ x : List Rat, ∀ z, ev (toR g) z = ev x z * ev (toR ms) z) → X ≤ 2 * ((2 ^ β : Nat) : Int) := fun hno => by
        refine Classical.byContradiction fun hbig => ?_
        obtain ⟨d1, d2⟩ := sh1 ds ms X (by omega) hd hv PP
        exact hno ⟨ht1.mpr d1, d2⟩
      refine ⟨t1, rfl, ?_⟩
      cases t1 with
      | false => exact hnx _ _ ⟨rfl, s345.trans s6, hback fun h => by cases h.1⟩
      | true =>
        refine if_yes' ?_
        refine ⟨V.ref p2, rfl, V.ref l2, rfl, p2, l2, ms, g, e, 2 * β + 3, rfl, SqL.of (s6 _ _ e5), (s345.trans s6).seq h2, nms, PP.tr, zg, zms, e0, by omega, hfin _ (by omega), by omega, by omega, fun t2 H7 s7 ht2 => ?_⟩
        refine ⟨t2, rfl, ?_⟩
        cases t2 with
        | false => exact hnx _ _ ⟨rfl, (s345.trans s6).trans s7, hback fun h => by cases ht2.mpr h.2⟩
        | true =>
          refine if_yes' ?_
          have d1 := ht1.mp rfl
          have d2 := ht2.mp rfl
          have hG : ∀ G', Gcd (toR fl) (toR g) G' → ∃ k : Rat, k ≠ 0 ∧ G' = smul k (toR ms) := fun G' GG => sound tf nf tg ng hA hB hX (fun d h => by have := hd d h; omega) hv PP nms d1 d2 GG
          refine ⟨V.ref p2, rfl, q p2 ms H7 ((s345.trans s6).trans s7) (s7 _ _ (s6 _ _ e5)) nms PP.tr (PP.g nms) (fun n hn => ?_) hG⟩
          have h6 := sh2 ms (PP.g nms) hG n hn
          show n.natAbs < 2 ^ (β + 1)
          rw [Nat.pow_succ]
          omega
    rintro σ1 H6 ⟨rfl, s6, hle⟩
    refine ⟨V.int X, rfl, V.int X, rfl, _, _, rfl, rfl, cmuly zX zX (by omega), ?_⟩
    exact ⟨o3, some (.ref p2), rfl, s6, hle⟩
end
end Vx
namespace Vx
open PySem PySem.Spec PyProof.Rows L2
local macro_rules | `(tactic| walk_at "cl") => `(tactic| first | assumption | exact Bz.mono (Bz.mul (by assumption) (by assumption)) (by decide) | rfl | omega | exact sz_of 0 rfl (by decide) | exact sz_of 1 rfl (by decide) | exact sz_of 2 rfl (by decide) | exact sz_of 3 rfl (by decide) | exact cmuly (by assumption) (by assumption) (by decide) | exact Bz.mono (Bz.mul (by assumption) (by assumption)) (by decide) | decide)
local macro_rules | `(tactic| walk_at "ex") => `(tactic| ((show Exists _); first | apply @Exists.intro V | apply @Exists.intro Int | apply @Exists.intro Addr | apply @Exists.intro (List V) | apply @Exists.intro Nat | apply @Exists.intro Str | apply @Exists.intro Bool | apply @Exists.intro (Option V) | apply @Exists.intro String | apply @Exists.intro Rat | apply @Exists.intro (List Rat)))
local macro_rules | `(tactic| walk_at "rd") => `(tactic| ((repeat (first | (walk_at "ex") | (apply And.intro; (focus (walk_at "cl"))))); (try dsimp only [])))
local macro_rules | `(tactic| walk_at "r0") => `(tactic| (repeat (first | (walk_at "ex") | (apply And.intro; (focus (walk_at "cl"))))))
theorem gcd_scale {ps qs G a b : List Rat} {c1 c2 : Rat} (h1 : ∀ x, ev a x = c1 * ev ps x) (k1 : c1 ≠ 0) (h2 : ∀ x, ev b x = c2 * ev qs x) (k2 : c2 ≠ 0) (GG : Gcd ps qs G) : Gcd a b G := by
  obtain ⟨x, hx⟩ := GG.l
  obtain ⟨y, hy⟩ := GG.r
  obtain ⟨u, v, huv⟩ := GG.b
  refine ⟨GG.tr, GG.ld, ⟨smul c1 x, fun z => ?_⟩, ⟨smul c2 y, fun z => ?_⟩, ⟨smul (1 / c1) u, smul (1 / c2) v, fun z => ?_⟩⟩
  · rw [ev_smul, h1, hx]
    grind
  · rw [ev_smul, h2, hy]
    grind
  · rw [ev_smul, ev_smul, h1, h2, huv]
    grind
theorem gcd_left_nil {ps qs : List Rat} {b : List Int} {c2 : Rat} (hp : ps = []) (h2 : ∀ x, ev (toR b) x = c2 * ev qs x) (k2 : c2 ≠ 0) (tb : Tr (toR b)) (nb : b ≠ []) : ∃ G k : _, Gcd ps qs G ∧ k ≠ 0 ∧ G = smul k (toR b) := by
  have hr : toR b ≠ [] := fun z => nb (toR_nil_iff.mp z)
  obtain ⟨k, k0, ld⟩ := lead_ex (l := toR b) ⟨_, List.getLast_mem hr, tb hr⟩
  refine ⟨smul k (toR b), k, ?_, k0, rfl⟩
  refine gcd_of tb k0 rfl ld ⟨[], fun z => ?_⟩ ⟨[1 / c2], fun z => ?_⟩ ⟨[], [c2], fun z => ?_⟩
  · rw [hp]
    show (0 : Rat) = 0 * _
    grind
  · rw [h2]
    show _ = (1 / c2 + z * 0) * _
    grind
  · rw [h2]
    show _ = 0 * _ + (c2 + z * 0) * _
    grind
theorem gcd_right_nil {ps qs : List Rat} {b : List Int} {c2 : Rat} (hp : qs = []) (h2 : ∀ x, ev (toR b) x = c2 * ev ps x) (k2 : c2 ≠ 0) (tb : Tr (toR b)) (nb : b ≠ []) : ∃ G k : _, Gcd ps qs G ∧ k ≠ 0 ∧ G = smul k (toR b) := by
  have hr : toR b ≠ [] := fun z => nb (toR_nil_iff.mp z)
  obtain ⟨k, k0, ld⟩ := lead_ex (l := toR b) ⟨_, List.getLast_mem hr, tb hr⟩
  refine ⟨smul k (toR b), k, ?_, k0, rfl⟩
  refine gcd_of tb k0 rfl ld ⟨[1 / c2], fun z => ?_⟩ ⟨[], fun z => ?_⟩ ⟨[c2], [], fun z => ?_⟩
  · rw [h2]
    show _ = (1 / c2 + z * 0) * _
    grind
  · rw [hp]
    show (0 : Rat) = 0 * _
    grind
  · rw [h2]
    show _ = (c2 + z * 0) * _ + 0 * _
    grind
theorem nil_of_scale {a ps : List Rat} {c : Rat} (h : ∀ x, ev a x = c * ev ps x) (c0 : c ≠ 0) (ha : a = []) (tp : Tr ps) : ps = [] := by
  refine ev_inj tp tr_nil fun x => ?_
  have := h x
  rw [ha] at this
  have e : ev ([] : List Rat) x = 0 := rfl
  rw [e] at this ⊢
  grind
theorem gcd_len {p q g : List Rat} (GG : Gcd p q g) (tp : Tr p) (np : p ≠ []) : g.length ≤ p.length := by
  obtain ⟨x, hx⟩ := GG.l
  obtain ⟨t, _, nt, _, h, _⟩ := mult_len GG.tr GG.ld.ne tp np hx
  have := List.length_pos_iff.mpr nt
  omega
section
variable {P : Program} {w : World} {K : PySem.W.Frag} {mg : Str → Option Value} {base : Heap}
/-- shared_part -/
def spShare (K : PySem.W.Frag) : Sp := fun vs H Q _ => ∃ (x y : V) (ps qs : List Rat) (d e l N M γ : Nat), vs = [x, y] ∧ RwT K H x ps ∧ RwT K H y qs ∧ Tr ps ∧ Tr qs ∧ (ps ≠ [] ∨ qs ≠ []) ∧ Cd d e ps ∧ Cd d e qs ∧ d < 8990 ∧ e ≤ 50000 ∧ ps.length + qs.length ≤ N ∧ N ≤ 2 ^ l ∧ ps.length ≤ M ∧ qs.length ≤ M ∧ M < 200 ∧ (2 * bChain l (e + 1) N + 5) * (N + 2) + e ≤ 4000000 ∧ bChain l (e + 1) N ≤ 400000 ∧ N < 400 ∧ γ ≤ 3900 ∧ (∀ (f : List Int) (g : List Rat) (c : Rat), (f ≠ [] → ∀ g : Nat, (∀ n ∈ f, (g : Int) ∣ n) → g = 1) → Gcd ps qs g → c ≠ 0 → g = smul c (toR f) → (∀ n ∈ f, Bz (bChain l (e + 1) N) n) → ∀ n ∈ f, Bz γ n) ∧
  ∀ v g H', Same H H' → RwT K H' v g → Gcd ps qs g → Cd γ γ g → g.length ≤ M → Q v H'
theorem sc_shared_part : FnScope ["row", "other", "first", "second", "whole", "found"] ["row", "other"] (defScope s_shared_part) := ⟨rfl, rfl, rfl, by decide +kernel, rfl, by decide +kernel, by decide +kernel⟩
theorem d_shared_part {aONE : Addr} (W : FunIn K mg "shared_part" s_shared_part) (T : Blt mg) (hONE : OneC K mg aONE) (DclearedD : Df P w K mg base "cleared" 33 ["row"] (spClearD K)) (Dprimitive : Df P w K mg base "primitive" 35 ["numbers"] (spPrim K)) (Dwhole_shared : Df P w K mg base "whole_shared" 36 ["first", "second"] (spWSh K)) (Drow_over : Df P w K mg base "row_over" 35 ["numbers", "under"] (spOver K)) (Dscaled : Df P w K mg base "scaled" 35 ["row", "fraction"] (spScl K)) (Dratio_over : Df P w K mg base "ratio_over" 34 ["one", "other"] (spQ2 K)) (Dfirst_fraction : Df P w K mg base "first_fraction" 33 ["row"] (spFirst K)) : Df P w K mg base "shared_part" 37 ["row", "other"] (spShare K) := by
  obtain ⟨f, fd, F, hm⟩ := W
  refine ⟨f, fd, F.ok sc_shared_part (fun vs H Q E h => ?_) (fun cdv A outer s H vs Q E hr h => ?_), hm, F.kp, F.binds fun _ _ _ _ _ _ us hl => match us, hl with | [_, _], _ => rfl⟩
  · obtain ⟨x, y, ps, qs, d, e, l, N, M, γ, rfl, _⟩ := h
    rfl
  · obtain ⟨x, y, ps, qs, d, e, l, N, M, γ, rfl, hx, hy, tp, tq, hne, cp, cq, hd, he5, hN, hl, hM1, hM2, hM, hb9, hb4, hN4, hγ, hsm, q⟩ := h
    have nd := sc_shared_part.nd
    have hbe : e + 1 ≤ bChain l (e + 1) N := by unfold bChain; omega
    have hBC : bCof l (e + 1) N + 1 = bChain l (e + 1) N := rfl
    generalize hβ : bChain l (e + 1) N = β at hb9 hb4 hsm hbe hBC
    refine ⟨_, (pss_cons (ps_set (i := 2) nd rfl (Or.inl rfl) (pe_d Dprimitive (hr.mono (by decide)) rfl (pa_cons (pe_ix ix_tup (pe_d DclearedD (hr.mono (by decide)) rfl (pa_cons (pv 0) pa_nil)) pe_int (fun _ _ => rfl)) pa_nil)))
        (pss_cons (ps_set (i := 3) nd rfl (Or.inl rfl) (pe_d Dprimitive (hr.mono (by decide)) rfl (pa_cons (pe_ix ix_tup (pe_d DclearedD (hr.mono (by decide)) rfl (pa_cons (pv 1) pa_nil)) pe_int (fun _ _ => rfl)) pa_nil)))
        (pss_cons (ps_set (i := 4) nd rfl (Or.inl rfl) (pe_ifExp (PW.pt (pw_and (pt_cmpR (op_neD (hu64 hr)) (pv 2) (pe_lst pa_nil) (nomark _)) (pw_and1 (pt_cmpR (op_neD (hu64 hr)) (pv 3) (pe_lst pa_nil) (nomark _))))) (pe_d Dwhole_shared (hr.mono (by decide)) rfl (pa_cons (pv 2) (pa_cons (pv 3) pa_nil))) (pe_op op_cat (pv 2) (pv 3))))
        (pss_cons (ps_set (i := 5) nd rfl (Or.inl rfl) (pe_d Drow_over (hr.mono (by decide)) rfl (pa_cons (pv 4) (pa_cons pe_int pa_nil))))
        (pss_one (ps_ret (pe_d Dscaled (hr.mono (by decide)) rfl (pa_cons (pv 5) (pa_cons (pe_d Dratio_over (hr.mono (by decide)) rfl (pa_cons (pe_glob (v := .ref aONE) rfl hONE.g rfl) (pa_cons (pe_d Dfirst_fraction (hr.mono (by decide)) rfl (pa_cons (pv 5) pa_nil)) pa_nil))) pa_nil))))))))), ?_⟩
    refine ⟨x, rfl, x, ps, d, e, rfl, hx, cp, hd, by omega, by omega, fun t1 l1 n1 D1 H1 s1 ht1 hl1 len1 D10 D1z z1 ev1 => ?_⟩
    have hat1 : atI [V.ref l1, V.int D1] 0 = some (V.ref l1) := rfl
    refine ⟨t1, _, 0, _, rfl, rfl, ht1, hat1, ?_⟩
    refine ⟨l1, n1, e + 1, rfl, SqL.of hl1, z1, by omega, by omega, fun a1 an H2 f2 s2 e2 P1 zan lan => ?_⟩
    refine ⟨y, rfl, y, qs, d, e, rfl, hy.mono (same_t (s1.trans s2)), cq, hd, by omega, by omega, fun t2 l2 n2 D2 H3 s3 ht2 hl2 len2 D20 D2z z2 ev2 => ?_⟩
    have hat2 : atI [V.ref l2, V.int D2] 0 = some (V.ref l2) := rfl
    refine ⟨t2, _, 0, _, rfl, rfl, ht2, hat2, ?_⟩
    refine ⟨l2, n2, e + 1, rfl, SqL.of hl2, z2, by omega, by omega, fun a2 bn H4 f4 s4 e4 P2 zbn lbn => ?_⟩
    obtain ⟨c1, k1, hc1⟩ := prim_of P1 D10 ev1
    obtain ⟨c2, k2, hc2⟩ := prim_of P2 D20 ev2
    have hne2 : an ≠ [] ∨ bn ≠ [] := hne.imp (fun h => prim_ne P1 D10 ev1 tp h) (fun h => prim_ne P2 D20 ev2 tq h)
    have s14 : Same H H4 := s1.trans (s2.trans (s3.trans s4))
    show gName 3 _ _ _ _
    unfold gName
    dsimp only []
    refine seq_cut (fun σ' H' => ∃ (p : Addr) (fs : List Int) (G : List Rat) (k : Rat), σ' = [some x, some y, some (.ref a1), some (.ref a2), some (.ref p), none] ∧ Same H H' ∧ H' p = some (.lst (fs.map V.int)) ∧ fs ≠ [] ∧ Tr (toR fs) ∧ Prim fs ∧ (∀ n ∈ fs, Bz β n) ∧ fs.length ≤ M ∧ Gcd ps qs G ∧ k ≠ 0 ∧ G = smul k (toR fs)) (fun nx hnx => ?_) ?_
    · have e2' := s4 _ _ (s3 _ _ e2)
      have hcat : ∀ H5, Same H4 H5 → (an = [] ∨ bn = []) → rCat (.ref a1) (.ref a2) H5 (fun v H' => nx [some x, some y, some (.ref a1), some (.ref a2), some v, none] H') := fun H5 s5 hor => by
        refine ⟨a1, a2, _, _, rfl, rfl, s5 _ _ e2', s5 _ _ e4, by rw [List.length_map, List.length_map, sizeLine_eq]; omega, fun p hp => ?_⟩
        have s6 := same_new (o := .lst (an.map V.int ++ bn.map V.int)) hp
        have e6 : upd H5 p (.lst (an.map V.int ++ bn.map V.int)) p = some (.lst (an.map V.int ++ bn.map V.int)) := upd_same
        generalize upd H5 p (.lst (an.map V.int ++ bn.map V.int)) = H6 at s6 e6
        rw [← List.map_append] at e6
        have s06 := s14.trans (s5.trans s6)
        rcases hor with na | nb
        · have hps : ps = [] := nil_of_scale hc1 k1 (by rw [na]; rfl) tp
          have nb : bn ≠ [] := hne2.resolve_left fun z => z na
          obtain ⟨G, k, GG, k0, hG⟩ := gcd_left_nil hps hc2 k2 P2.tr nb
          rw [na, List.nil_append] at e6
          exact hnx _ _ ⟨p, bn, G, k, rfl, s06, e6, nb, P2.tr, P2.g nb, fun n hn => (zbn n hn).mono hbe, by omega, GG, k0, hG⟩
        · have hqs : qs = [] := nil_of_scale hc2 k2 (by rw [nb]; rfl) tq
          have na : an ≠ [] := hne2.resolve_right fun z => z nb
          obtain ⟨G, k, GG, k0, hG⟩ := gcd_right_nil hqs hc1 k1 P1.tr na
          rw [nb, List.append_nil] at e6
          exact hnx _ _ ⟨p, an, G, k, rfl, s06, e6, na, P1.tr, P1.g na, fun n hn => (zan n hn).mono hbe, by omega, GG, k0, hG⟩
      refine ⟨V.ref a1, rfl, Nat.zero_le _, fun p1 hp1 => ?_⟩
      have s5 := same_new (o := .lst []) hp1
      have e5 : upd H4 p1 (.lst []) p1 = some (.lst []) := upd_same
      generalize upd H4 p1 (.lst []) = H5 at s5 e5
      refine rNeD_ints (SqL.of (s5 _ _ e2')) (SqL.of e5) ⟨_, rfl, ?_⟩
      refine tifn (fun na => ?_) (fun na => ?_)
      · refine ⟨V.ref a2, rfl, Nat.zero_le _, fun p2 hp2 => ?_⟩
        have s6 := same_new (o := .lst []) hp2
        have e6 : upd H5 p2 (.lst []) p2 = some (.lst []) := upd_same
        generalize upd H5 p2 (.lst []) = H6 at s6 e6
        refine rNeD_ints (SqL.of (s6 _ _ (s5 _ _ e4))) (SqL.of e6) ⟨_, rfl, ?_⟩
        refine tifn (fun nb => ?_) (fun nb => ?_)
        · have s46 := s5.trans s6
          refine ⟨V.ref a1, rfl, V.ref a2, rfl, a1, a2, an, bn, e + 1, l, N, rfl, SqL.of (s46 _ _ e2'), SqL.of (s46 _ _ e4), na, nb, P1.tr, P2.tr, P1.g na, zan, zbn, by omega, by omega, hl, hN4, ?_, by omega, fun p ms H7 s7 e7 nms tms pms zms hG => ?_⟩
          · have h1 : 2 * bCof l (e + 1) N + 5 ≤ 2 * β + 5 := by omega
            have h2 := Nat.mul_le_mul_right (N + 2) (show 2 * bCof l (e + 1) N + 6 ≤ 2 * β + 5 by omega)
            have h3 : (2 * bCof l (e + 1) N + 6) * (N + 2) = (2 * bCof l (e + 1) N + 5) * (N + 2) + (N + 2) := by
              rw [show 2 * bCof l (e + 1) N + 6 = (2 * bCof l (e + 1) N + 5) + 1 from rfl, Nat.add_mul, Nat.one_mul]
            omega
          · have np : ps ≠ [] := fun z => na (by
              have := nil_of_scale (a := ps) (ps := toR an) (c := 1 / c1) (fun x => by rw [hc1]; grind) (by grind) z P1.tr
              exact toR_nil_iff.mp this)
            obtain ⟨G, GG⟩ := gcd_ex tp tq (Or.inl np)
            obtain ⟨k, k0, hk⟩ := hG G (gcd_scale hc1 k1 hc2 k2 GG)
            have hgl := gcd_len GG tp np
            have hml : ms.length ≤ M := by
              have := congrArg List.length hk
              rw [smul_len, toR_len] at this
              omega
            rw [hBC] at zms
            exact hnx _ _ ⟨p, ms, G, k, rfl, s14.trans (s46.trans s7), e7, nms, tms, pms, zms, hml, GG, k0, hk⟩
        · exact ⟨V.ref a1, rfl, V.ref a2, rfl, hcat H6 (s5.trans s6) (Or.inr nb)⟩
      · exact ⟨V.ref a1, rfl, V.ref a2, rfl, hcat H5 s5 (Or.inl na)⟩
    rintro σ1 H' ⟨fa, fs, G, k, rfl, s5, hf, hfs, tf, pf, zf, lf, GG0, k0, hG⟩
    have hβ1 : 1 ≤ β := by omega
    have z1' : Bz β (1 : Int) := by
      show (1 : Nat) < 2 ^ β
      exact Nat.one_lt_two_pow (by omega)
    have hβ8 : β ≤ 700000 := by omega
    refine ⟨V.ref fa, rfl, fa, fs, 1, rfl, SqL.of hf, by decide, z1'.mono (by omega), by omega, fun v r H6 s6 hr tr her hzr hlr => ?_⟩
    have er : r = toR fs := ev_inj tr tf fun z => by rw [her]; exact ev_div1 _ _
    subst er
    have hexc : ∃ c ∈ toR fs, c ≠ 0 := by
      have hr : toR fs ≠ [] := fun z => hfs (toR_nil_iff.mp z)
      exact ⟨_, List.getLast_mem hr, tf hr⟩
    refine ⟨v, rfl, v, rfl, v, _, rfl, hr, hexc, fun v2 c0 hv2 hc0 => ?_⟩
    have hcc : (1 : Rat) / c0 ≠ 0 := by have := hc0.1; grind
    have hk1 : k = 1 / c0 := lead_first hc0 k0 (by rw [← hG]; exact GG0.ld)
    have GG : Gcd ps qs (smul (1 / c0) (toR fs)) := by
      rw [← hk1, ← hG]
      exact GG0
    have zg := hsm fs _ _ (fun _ => pf) GG hcc rfl zf
    have hγ1 : 1 ≤ γ := by
      rcases Nat.eq_zero_or_pos γ with z | z
      · obtain ⟨n, hn⟩ := List.exists_mem_of_ne_nil _ hfs
        exfalso
        obtain ⟨c, hc, hc0'⟩ := hexc
        obtain ⟨m, hm, rfl⟩ := List.mem_map.mp hc
        have := zg m hm
        rw [z] at this
        unfold Bz at this
        have : m = 0 := by omega
        exact hc0' (by rw [this]; rfl)
      · exact z
    have z1g : Bz γ (1 : Int) := by
      show (1 : Nat) < 2 ^ γ
      exact Nat.one_lt_two_pow (by omega)
    have zr := hzr γ zg z1g
    obtain ⟨cdg, zc0⟩ := cd_lead zg hc0
    refine ⟨V.ref aONE, v2, 1, c0, rfl, hONE.fr _, hv2, hc0.1, qz1 (by decide), zc0.mono hγ, fun v3 H8 s8 hv3 => ?_⟩
    refine ⟨v, v3, toR fs, 1 / c0, γ, γ, rfl, hr.mono (same_t s8), hv3, zr, qz_inv zc0 hc0.1, by omega, by omega, by rw [toR_len]; omega, fun v4 H9 s9 hv4 => ?_⟩
    exact q v4 _ H9 (s5.trans (s6.trans (s8.trans s9))) hv4 GG cdg (by rw [smul_len, toR_len]; omega)
end
end Vx
namespace Vx
open PySem PySem.Spec PyProof.Rows L2
local macro_rules | `(tactic| walk_at "cl") => `(tactic| first | assumption | exact Bz.mono (Bz.mul (by assumption) (by assumption)) (by decide) | rfl | omega | exact sz_of 0 rfl (by decide) | exact sz_of 1 rfl (by decide) | exact sz_of 2 rfl (by decide) | exact sz_of 3 rfl (by decide) | exact cmulx (by assumption) (by assumption) (by decide) | exact Bz.mono (Bz.mul (by assumption) (by assumption)) (by decide) | decide)
local macro_rules | `(tactic| walk_at "ex") => `(tactic| ((show Exists _); first | apply @Exists.intro V | apply @Exists.intro Int | apply @Exists.intro Addr | apply @Exists.intro (List V) | apply @Exists.intro Nat | apply @Exists.intro Str | apply @Exists.intro Bool | apply @Exists.intro (Option V) | apply @Exists.intro String | apply @Exists.intro Rat | apply @Exists.intro (List Rat)))
local macro_rules | `(tactic| walk_at "rd") => `(tactic| ((repeat (first | (walk_at "ex") | (apply And.intro; (focus (walk_at "cl"))))); (try dsimp only [])))
local macro_rules | `(tactic| walk_at "r0") => `(tactic| (repeat (first | (walk_at "ex") | (apply And.intro; (focus (walk_at "cl"))))))
section
variable {P : Program} {w : World} {K : PySem.W.Frag} {mg : Str → Option Value} {base : Heap}
/-- split_row, of rows over one divisor each -/
def dSp (d1 e2 N : Nat) : Nat := N * (e2 + 2) + d1 + 2
def eSp (e1 d2 e2 N : Nat) : Nat := e1 + 1 + N * (e2 + 2) + d2 + 1
def spSplitD (K : PySem.W.Frag) : Sp := fun vs H Q _ => ∃ (x y : V) (ps qs : List Rat) (d1 e1 d2 e2 N : Nat), vs = [x, y] ∧ RwT K H x ps ∧ RwT K H y qs ∧ Tr qs ∧ qs ≠ [] ∧ Cd d1 e1 ps ∧ Cd d2 e2 qs ∧ ps.length < 100 ∧ qs.length < 100 ∧ d1 < 8990 ∧ d2 < 8990 ∧ e1 ≤ 50000 ∧ e2 ≤ 50000 ∧ ps.length + 1 ≤ qs.length + N ∧ N * (e2 + 2) ≤ 700000 ∧
  ∀ (t : Addr) (v1 v2 : V) (q r : List Rat) H', Same H H' → SqT K H' t [v1, v2] → RwT K H' v1 q → RwT K H' v2 r → Tr q → Tr r → (∀ z, ev ps z = ev q z * ev qs z + ev r z) → r.length < qs.length → q.length ≤ ps.length → r.length ≤ ps.length →
    Cd (dSp d1 e2 N) (eSp e1 d2 e2 N) q → Cd (dSp d1 e2 N) (eSp e1 d2 e2 N) r → Q (.ref t) H'
theorem d_split_rowD (W : FunIn K mg "split_row" s_split_row) (DclearedD : Df P w K mg base "cleared" 33 ["row"] (spClearD K)) (Dwhole_split : Df P w K mg base "whole_split" 33 ["numbers", "by"] (spWSplit K)) (Drow_over : Df P w K mg base "row_over" 35 ["numbers", "under"] (spOver K)) : Df P w K mg base "split_row" 36 ["row", "other"] (spSplitD K) := by
  obtain ⟨f, fd, F, hm⟩ := W
  refine ⟨f, fd, F.ok sc_split_row (fun vs H Q E h => ?_) (fun cdv A outer s H vs Q E hr h => ?_), hm, F.kp, F.binds fun _ _ _ _ _ _ us hl => match us, hl with | [_, _], _ => rfl⟩
  · obtain ⟨x, y, ps, qs, d1, e1, d2, e2, N, rfl, _⟩ := h
    rfl
  · obtain ⟨x, y, ps, qs, d1, e1, d2, e2, N, rfl, hx, hy, tq, nq, cp, cq, lp, lq, hd1, hd2, he1', he2', hN, hb, q⟩ := h
    have nd := sc_split_row.nd
    refine ⟨_, (pss_cons (ps_asg (pe_d DclearedD (hr.mono (by decide)) rfl (pa_cons (pv 0) pa_nil)) (pg_tup rfl (pgs_cons (pg_name (i := 2) nd rfl (Or.inl rfl) (Or.inr rfl)) (pgs_cons (pg_name (i := 3) nd rfl (Or.inl rfl) (Or.inr rfl)) pgs_nil))))
        (pss_cons (ps_asg (pe_d DclearedD (hr.mono (by decide)) rfl (pa_cons (pv 1) pa_nil)) (pg_tup rfl (pgs_cons (pg_name (i := 4) nd rfl (Or.inl rfl) (Or.inr rfl)) (pgs_cons (pg_name (i := 5) nd rfl (Or.inr rfl)) pgs_nil))))
        (pss_cons (ps_asg (pe_d Dwhole_split (hr.mono (by decide)) rfl (pa_cons (pv 2) (pa_cons (pv 4) pa_nil))) (pg_tup rfl (pgs_cons (pg_name (i := 6) nd rfl (Or.inl rfl) (Or.inr rfl)) (pgs_cons (pg_name (i := 7) nd rfl (Or.inl rfl) (Or.inr rfl)) (pgs_cons (pg_name (i := 8) nd rfl (Or.inl rfl) (Or.inr rfl)) pgs_nil)))))
        (pss_cons (ps_set (i := 9) nd rfl (Or.inl rfl) (pe_op op_mulX (pv 8) (pv 3)))
        (pss_one (ps_ret (pe_tup (pa_cons (pe_d Drow_over (hr.mono (by decide)) rfl (pa_cons (pe_lc (own := [("x", 10)]) rfl nd (pi_list (pv 6)) (blkOk_by (own := [("x", 10)]) (N := ["row", "other", "numbers", "under", "by", "unit", "quotient", "rest", "scale", "full", "x"]) (sc := defScope s_split_row) (by decide +kernel)) (fun _ _ _ _ _ => (pg_name (i := 10) nd rfl (Or.inl rfl) (Or.inr rfl))) (fun _ _ _ _ _ => pts_nil) (fun _ _ _ _ _ => (pe_op op_mulX (pv 5) (pv 10)))) (pa_cons (pv 9) pa_nil))) (pa_cons (pe_d Drow_over (hr.mono (by decide)) rfl (pa_cons (pv 7) (pa_cons (pv 9) pa_nil))) pa_nil))))))))), ?_⟩
    refine ⟨x, rfl, x, ps, d1, e1, rfl, hx, cp, hd1, by omega, by omega, fun t1 l1 ns D1 H1 s1 ht1 hl1 hn1 hD1 hz1 hzn1 he1 => ?_⟩
    refine ⟨t1, _, rfl, ht1, rfl, _, _, rfl, _, _, rfl, rfl, ?_⟩
    have hy1 := RwT.mono (same_t s1) hy
    refine ⟨y, rfl, y, qs, d2, e2, rfl, hy1, cq, hd2, by omega, by omega, fun t2 l2 ms D2 H2 s2 ht2 hl2 hn2 hD2 hz2 hzn2 he2 => ?_⟩
    refine ⟨t2, _, rfl, ht2, rfl, _, _, rfl, _, _, rfl, rfl, ?_⟩
    have hl1' : SqL K H2 l1 (ns.map V.int) := s2.seq (SqL.of hl1)
    have hl2' : SqL K H2 l2 (ms.map V.int) := SqL.of hl2
    obtain ⟨es, top, rfl⟩ : ∃ es top, ms = es ++ [top] := by
      rcases List.eq_nil_or_concat ms with z | ⟨l, c, z⟩
      · rw [z, List.length_nil] at hn2
        exact absurd (List.length_eq_zero_iff.mp hn2.symm) nq
      · exact ⟨l, c, by simpa using z⟩
    have htop : top ≠ 0 := fun z => by
      have e := congrArg List.getLast? he2
      rw [List.map_append, List.getLast?_append, List.getLast?_map, List.getLast?_map (l := qs), List.getLast?_eq_getLast nq] at e
      have e' : (top : Rat) = (D2 : Rat) * qs.getLast nq := by simpa using e
      have h1 := tq nq
      have h2 : (D2 : Rat) ≠ 0 := by exact_mod_cast (show D2 ≠ 0 by omega)
      rw [z] at e'
      grind
    have hle : es.length + 1 = qs.length := by
      rw [← hn2, List.length_append]
      rfl
    refine ⟨_, rfl, _, rfl, l1, l2, ns, es, top, e1 + 1, e2 + 1, N, rfl, hl1', hl2', htop, hzn1, hzn2, by omega, by omega, by show e1 + 1 + N * (e2 + 2) + _ ≤ _; omega, by omega, by omega, by omega, fun t3 q3 r3 Qn Rn S H3 s3 ht3 eQ eR hS hid lR1 lR2 lQ bQ bR bS => ?_⟩
    rw [hn1] at lQ lR2
    have bQ : ∀ k ∈ Qn, Bz (e1 + 1 + N * (e2 + 2)) k := bQ
    have bR : ∀ k ∈ Rn, Bz (e1 + 1 + N * (e2 + 2)) k := bR
    have bS : Bz (N * (e2 + 2) + 1) S := bS
    refine ⟨t3, _, rfl, ht3, rfl, _, _, rfl, _, _, rfl, _, _, rfl, rfl, ?_⟩
    have cF : CMulX S D1 := cmuly bS hz1 (by omega)
    have hF0 : S * D1 ≠ 0 := Int.mul_ne_zero hS (by omega)
    have hFz : Bz (dSp d1 e2 N) (S * D1) := (Bz.mul bS hz1).mono (by unfold dSp; omega)
    have hFz8 : Bz 800000 (S * D1) := hFz.mono (by unfold dSp; omega)
    refine ⟨_, rfl, _, rfl, S, D1, rfl, rfl, cF, ?_⟩
    refine ⟨_, rfl, q3, rfl, ⟨_, SqL.of eQ⟩, fun l hl => lc_map (walk_list (K := K) (a := q3) (xs := Qn.map V.int)) hl (by rw [List.length_map, sizeLine_eq]; omega) (fun i _ v => ∃ c, Qn[i]? = some c ∧ v = .int (D2 * c)) (fun _ _ _ _ _ h => h) (fun H1 s1 => s1.seq (SqL.of eQ)) ?_ ?_⟩
    · rintro j u G1 G2 hj s1 _ ⟨rfl, hu⟩ Fin hF
      rw [List.getElem?_map] at hu
      obtain ⟨c, hc, rfl⟩ := Option.map_eq_some_iff.mp hu
      have cz := bQ c (List.mem_of_getElem? hc)
      have c3 : CMulX D2 c := cmuly hz2 cz (by omega)
      walk_at "rd"
      exact hF _ _ (Same.refl _) ⟨c, hc, rfl⟩
    rintro H4 acc s4 hacc hlen hel
    rw [acc_map hlen hel] at hacc
    clear hel hlen acc
    have eR4 := s4 _ _ eR
    refine ⟨_, rfl, l, Qn.map (D2 * ·), S * D1, rfl, SqL.of hacc, hF0, hFz8, by rw [List.length_map]; omega, fun v1 q1 H5 s5 hv1 tq1 hev1 hqz1 hlq1 => ?_⟩
    have eR5 := s5 _ _ eR4
    refine ⟨_, rfl, _, rfl, r3, Rn, S * D1, rfl, SqL.of eR5, hF0, hFz8, by omega, fun v2 q2 H6 s6 hv2 tq2 hev2 hqz2 hlq2 => ?_⟩
    walk_at "rd"
    intro t ht
    have s7 := same_new (o := .tup [v1, v2]) ht
    rw [List.length_map] at hlq1
    refine q t v1 v2 q1 q2 _ (((((s1.trans s2).trans s3).trans s4).trans s5).trans s6 |>.trans s7) (SqT.of upd_same) ((hv1.mono (same_t s6)).mono (same_t s7)) (hv2.mono (same_t s7)) tq1 tq2 (fun z => ?_) (by omega) (by omega) (by omega) ?_ ?_
    · have h0 := hid z
      rw [toR_scale he1, toR_scale he2] at h0
      rw [hev1, hev2, toR_smul]
      have h1 : (D1 : Rat) ≠ 0 := by exact_mod_cast (show D1 ≠ 0 by omega)
      have h2 : (S : Rat) ≠ 0 := by exact_mod_cast hS
      have h3 : ((S * D1 : Int) : Rat) ≠ 0 := by exact_mod_cast hF0
      have h4 : ((S * D1 : Int) : Rat) = (S : Rat) * (D1 : Rat) := by push_cast; rfl
      rw [h4] at *
      grind
    · refine cd_over hev1 hF0 hFz fun n hn => ?_
      obtain ⟨c, hc, rfl⟩ := List.mem_map.mp hn
      exact (Bz.mul hz2 (bQ c hc)).mono (by unfold eSp; omega)
    · exact cd_over hev2 hF0 hFz fun n hn => (bR n hn).mono (by unfold eSp; omega)
/-- quotient_of, of a row over one that divides it -/
def spQuoD (K : PySem.W.Frag) : Sp := fun vs H Q _ => ∃ (x y : V) (ps qs : List Rat) (d1 e1 d2 e2 N : Nat), vs = [x, y] ∧ RwT K H x ps ∧ RwT K H y qs ∧ Tr qs ∧ qs ≠ [] ∧ Cd d1 e1 ps ∧ Cd d2 e2 qs ∧ ps.length < 100 ∧ qs.length < 100 ∧ d1 < 8990 ∧ d2 < 8990 ∧ e1 ≤ 50000 ∧ e2 ≤ 50000 ∧ ps.length + 1 ≤ qs.length + N ∧ N * (e2 + 2) ≤ 700000 ∧ (∃ o : List Rat, ∀ z, ev ps z = ev o z * ev qs z) ∧
  ∀ (v : V) (q : List Rat) H', Same H H' → RwT K H' v q → Tr q → (∀ z, ev ps z = ev q z * ev qs z) → q.length ≤ ps.length → Cd (dSp d1 e2 N) (eSp e1 d2 e2 N) q → Q v H'
theorem d_quotient_ofD (W : FunIn K mg "quotient_of" s_quotient_of) (Dsplit_rowD : Df P w K mg base "split_row" 36 ["row", "other"] (spSplitD K)) : Df P w K mg base "quotient_of" 37 ["row", "other"] (spQuoD K) := by
  obtain ⟨f, fd, F, hm⟩ := W
  refine ⟨f, fd, F.ok sc_quotient_of (fun vs H Q E h => ?_) (fun cdv A outer s H vs Q E hr h => ?_), hm, F.kp, F.binds fun _ _ _ _ _ _ us hl => match us, hl with | [_, _], _ => rfl⟩
  · obtain ⟨x, y, ps, qs, d1, e1, d2, e2, N, rfl, _⟩ := h
    rfl
  · obtain ⟨x, y, ps, qs, d1, e1, d2, e2, N, rfl, hx, hy, tq, nq, cp, cq, lp, lq, hd1, hd2, he1', he2', hN, hb, ⟨o, ho⟩, q⟩ := h
    refine ⟨_, (pss_one (ps_ret (pe_ix ix_tup (pe_d Dsplit_rowD (hr.mono (by decide)) rfl (pa_cons (pv 0) (pa_cons (pv 1) pa_nil))) pe_int (fun _ _ => rfl)))), ?_⟩
    refine ⟨x, rfl, y, rfl, x, y, ps, qs, d1, e1, d2, e2, N, rfl, hx, hy, tq, nq, cp, cq, lp, lq, hd1, hd2, he1', he2', hN, hb, fun t v1 v2 qq r H3 s3 ht h1 h2 tqq trr hev hlt l1 _ c1 _ => ?_⟩
    have hat : atI [v1, v2] 0 = some v1 := rfl
    refine ⟨t, _, 0, v1, rfl, rfl, ht, hat, ?_⟩
    have hr : r = [] := len_of_mul trr tq nq (x := ladd o (qq.map ((-1 : Rat) * ·))) (fun z => by
      rw [ev_ladd, ev_scale]
      have := hev z
      rw [ho] at this
      grind) hlt
    subst hr
    refine q v1 qq H3 s3 h1 tqq (fun z => ?_) l1 c1
    rw [hev, ev_nil]
    grind
end
end Vx
namespace Vx
def Ov (D : Nat) (b : Nat) (x : Rat) : Prop := ∃ n : Int, x * (D : Rat) = (n : Rat) ∧ n.natAbs ≤ 2 ^ b
theorem Ov.mono {D b c : Nat} {x : Rat} (h : Ov D b x) (le : b ≤ c) : Ov D c x := let ⟨n, e, g⟩ := h; ⟨n, e, Nat.le_trans g (Nat.pow_le_pow_right (by decide) le)⟩
theorem Ov.qz {D a b c : Nat} {x : Rat} (h : Ov D b x) (h0 : 0 < D) (hD : D ≤ 2 ^ a) (ha : a < c) (hb : b < c) : Qz c x :=
  cd_qs (l := [x]) (a := a) (b := b) ⟨D, h0, hD, fun y hy => by rw [List.mem_singleton.mp hy]; exact h⟩ ha hb x List.mem_cons_self
theorem Ov.sub {D b : Nat} {x y : Rat} (h : Ov D b x) (k : Ov D b y) : Ov D (b + 1) (x - y) := by
  obtain ⟨n, e, g⟩ := h
  obtain ⟨m, f, g2⟩ := k
  refine ⟨n - m, by push_cast; grind, ?_⟩
  rw [Nat.pow_succ]
  omega
/-- one turn -/
theorem turn_ov {d e d2 e2 : Nat} {rs t : List Rat} {c b : Rat} (hr : Cd d e rs) (ht : Cd d2 e2 t) (hc : c ∈ rs) (hb : b ∈ t) (b0 : b ≠ 0) :
    (∃ D : Nat, 0 < D ∧ D ≤ 2 ^ (d + e2) ∧ (∀ x ∈ rs, Ov D (e + e2) x) ∧ ∀ y ∈ t, Ov D (e + e2) (c / b * y)) ∧ Qz (max (e + d2) (d + e2) + 1) (c / b) := by
  obtain ⟨D, d0, d1, dd⟩ := hr
  obtain ⟨E, e0, e1, ee⟩ := ht
  obtain ⟨n, hn, ln⟩ := dd c hc
  obtain ⟨m, hm, lm⟩ := ee b hb
  have Er : (E : Rat) ≠ 0 := by exact_mod_cast (show E ≠ 0 by omega)
  have Dr : (D : Rat) ≠ 0 := by exact_mod_cast (show D ≠ 0 by omega)
  have m0 : m ≠ 0 := fun z => by
    rw [z] at hm
    have : b * (E : Rat) = 0 := by rw [hm]; rfl
    rcases Rat.mul_eq_zero.mp this with h | h
    · exact b0 h
    · exact Er h
  have mr : (m : Rat) ≠ 0 := by exact_mod_cast m0
  have sgn : ∃ s : Int, (s = 1 ∨ s = -1) ∧ ((m.natAbs : Nat) : Rat) = (s : Rat) * (m : Rat) := by
    rcases Int.natAbs_eq m with z | z
    · refine ⟨1, .inl rfl, ?_⟩
      have : ((m.natAbs : Nat) : Int) = 1 * m := by omega
      exact_mod_cast this
    · refine ⟨-1, .inr rfl, ?_⟩
      have : ((m.natAbs : Nat) : Int) = -1 * m := by omega
      exact_mod_cast this
  obtain ⟨s, hs, hsm⟩ := sgn
  have sb : s.natAbs = 1 := by
    rcases hs with rfl | rfl <;> rfl
  refine ⟨⟨D * m.natAbs, Nat.mul_pos d0 (by omega), by rw [Nat.pow_add]; exact Nat.mul_le_mul d1 lm, fun x hx => ?_, fun y hy => ?_⟩, ?_⟩
  · obtain ⟨a, ha, la⟩ := dd x hx
    refine ⟨a * (s * m), ?_, ?_⟩
    · push_cast
      rw [hsm]
      have : x * ((D : Rat) * ((s : Rat) * (m : Rat))) = x * D * (s * m) := by grind
      rw [this, ha]
    · rw [Int.natAbs_mul, Int.natAbs_mul, sb, Nat.one_mul, Nat.pow_add]
      exact Nat.mul_le_mul la lm
  · obtain ⟨a, ha, la⟩ := ee y hy
    refine ⟨n * (s * a), ?_, ?_⟩
    · push_cast
      rw [hsm]
      have e5 : c / b * y * ((D : Rat) * ((s : Rat) * (m : Rat))) = n * (s * a) := by
        rw [← hm, ← hn, ← ha]
        grind
      exact e5
    · rw [Int.natAbs_mul, Int.natAbs_mul, sb, Nat.one_mul, Nat.pow_add]
      exact Nat.mul_le_mul ln la
  · have hq : c / b = Rat.divInt (n * E) (D * m) := by
      rw [Rat.divInt_eq_div]
      push_cast
      rw [← hm, ← hn]
      grind
    rw [hq]
    have p2 : ∀ a b : Nat, a ≤ b → 2 ^ a ≤ 2 ^ b := fun a b h => Nat.pow_le_pow_right (by decide) h
    refine Qz.of_div ?_ ?_ (Int.mul_ne_zero (by omega) m0)
    · unfold Bz
      rw [Int.natAbs_mul, Int.natAbs_natCast]
      have h1 := Nat.mul_le_mul ln e1
      rw [← Nat.pow_add] at h1
      have h2 := p2 (e + d2) (max (e + d2) (d + e2)) (by omega)
      have h3 := Nat.two_pow_pos (max (e + d2) (d + e2))
      rw [Nat.pow_succ]
      omega
    · unfold Bz
      rw [Int.natAbs_mul, Int.natAbs_natCast]
      have h1 := Nat.mul_le_mul d1 lm
      rw [← Nat.pow_add] at h1
      have h2 := p2 (d + e2) (max (e + d2) (d + e2)) (by omega)
      have h3 := Nat.two_pow_pos (max (e + d2) (d + e2))
      rw [Nat.pow_succ]
      omega
end Vx
namespace Vx
open PySem PySem.Spec PyProof.Rows L2
local macro_rules | `(tactic| walk_at "cl") => `(tactic| first | assumption | exact Bz.mono (Bz.mul (by assumption) (by assumption)) (by decide) | rfl | omega | exact sz_of 0 rfl (by decide) | exact sz_of 1 rfl (by decide) | exact sz_of 2 rfl (by decide) | exact sz_of 3 rfl (by decide) | exact cmulx (by assumption) (by assumption) (by decide) | exact Bz.mono (Bz.mul (by assumption) (by assumption)) (by decide) | decide)
local macro_rules | `(tactic| walk_at "ex") => `(tactic| ((show Exists _); first | apply @Exists.intro V | apply @Exists.intro Int | apply @Exists.intro Addr | apply @Exists.intro (List V) | apply @Exists.intro Nat | apply @Exists.intro Str | apply @Exists.intro Bool | apply @Exists.intro (Option V) | apply @Exists.intro String | apply @Exists.intro Rat | apply @Exists.intro (List Rat)))
local macro_rules | `(tactic| walk_at "rd") => `(tactic| ((repeat (first | (walk_at "ex") | (apply And.intro; (focus (walk_at "cl"))))); (try dsimp only [])))
local macro_rules | `(tactic| walk_at "r0") => `(tactic| (repeat (first | (walk_at "ex") | (apply And.intro; (focus (walk_at "cl"))))))
theorem cd_lt1 {a b c : Nat} {l : List Rat} (h : Cd a b l) (ha : a < c) (hb : b < c) : Qs c l := cd_qs h ha hb
section
variable {P : Program} {w : World} {K : PySem.W.Frag} {mg : Str → Option Value} {base : Heap}
/-- _law_parted -/
def spLaPart (K : PySem.W.Frag) : Sp := fun vs H Q _ => ∃ (x y : V) (ps qs : List Rat) (d e d2 e2 N : Nat), vs = [x, y] ∧ RwT K H x ps ∧ RwT K H y qs ∧ Tr qs ∧ qs ≠ [] ∧ Cd d e ps ∧ Cd d2 e2 qs ∧ ps.length < 100 ∧ qs.length < 100 ∧ ps.length + 1 ≤ qs.length + N ∧ d ≤ e ∧ d2 ≤ e2 ∧ e + N * (e2 + 1) + e2 + 2 ≤ 3900 ∧
  ∀ (t : Addr) (v1 v2 : V) (q r : List Rat) H', Same H H' → SqT K H' t [v1, v2] → RwT K H' v1 q → RwT K H' v2 r → Tr q → Tr r → (∀ z, ev ps z = ev q z * ev qs z + ev r z) → r.length < qs.length → r.length ≤ ps.length → Cd (d + N * e2) (e + N * (e2 + 1)) r → Q (.ref t) H'
theorem sc__law_parted : FnScope ["one", "two", "rest", "quotient", "k", "by", "j"] ["one", "two"] (defScope s__law_parted) := ⟨rfl, rfl, rfl, by decide +kernel, rfl, by decide +kernel, by decide +kernel⟩
theorem d__law_parted (W : FunIn K mg "_law_parted" s__law_parted) (T : Blt mg) (D_law_trim : Df P w K mg base "_law_trim" 33 ["numbers"] (spTrimL K)) (D_law_minus : Df P w K mg base "_law_minus" 34 ["one", "two"] (spR2 K (fun p q => p - q))) (D_law_times : Df P w K mg base "_law_times" 34 ["one", "two"] (spR2 K (fun p q => p * q))) (D_law_over : Df P w K mg base "_law_over" 34 ["one", "two"] (spQ2 K)) : Df P w K mg base "_law_parted" 35 ["one", "two"] (spLaPart K) := by
  obtain ⟨f, fd, F, hm⟩ := W
  refine ⟨f, fd, F.ok sc__law_parted (fun vs H Q E h => ?_) (fun cdv A outer s H vs Q E hr h => ?_), hm, F.kp, F.binds fun _ _ _ _ _ _ us hl => match us, hl with | [_, _], _ => rfl⟩
  · obtain ⟨x, y, ps, qs, d, e, d2, e2, N, rfl, _⟩ := h
    rfl
  · obtain ⟨x, y, ps, qs, d, e, d2, e2, N, rfl, ⟨a1, us, rfl, ha, hA⟩, ⟨a2, vs, rfl, hb, hB⟩, tq, nq, cp, cq, lp, lq, hN, hde, hde2, hbd, q⟩ := h
    have nd := sc__law_parted.nd
    have hL1 := hA.length
    have hL2 := hB.length
    refine ⟨_, (pss_cons (ps_par (i := 2) (j := 3) (by rfl) nd rfl rfl (by decide) rfl rfl (pa_cons (pe_callTy call_list_of (by rfl) T.n_list (by decide +kernel) (pa_cons (pv 0) pa_nil)) (pa_cons (pe_op op_rep (pe_lst (pa_cons (pe_tup (pa_cons pe_int (pa_cons pe_int pa_nil))) pa_nil)) (pe_callB (call_max2 rfl) (by rfl) T.n_max (by decide +kernel) (pa_cons (pe_op op_add (pe_op op_sub (pe_callB call_len_seq (by rfl) T.n_len (by decide +kernel) (pa_cons (pv 0) pa_nil)) (pe_callB call_len_seq (by rfl) T.n_len (by decide +kernel) (pa_cons (pv 1) pa_nil))) pe_int) (pa_cons pe_int pa_nil)))) pa_nil)) (by rfl))
        (pss_cons (ps_for PassesOwn.never rfl (pi_range3 (by rfl) T.n_range (pa_cons (pe_op op_sub (pe_callB call_len_seq (by rfl) T.n_len (by decide +kernel) (pa_cons (pv 0) pa_nil)) (pe_callB call_len_seq (by rfl) T.n_len (by decide +kernel) (pa_cons (pv 1) pa_nil))) (pa_cons (pe_un un_neg pe_int) (pa_cons (pe_un un_neg pe_int) pa_nil)))) (pg_name (i := 4) nd rfl (Or.inl rfl) (Or.inr rfl)) (pss_cons (ps_set (i := 5) nd rfl (Or.inl rfl) (pe_d D_law_over (hr.mono (by decide)) rfl (pa_cons (pe_ix ix_list (pv 2) (pe_op op_sub (pe_op op_add (pv 4) (pe_callB call_len_seq (by rfl) T.n_len (by decide +kernel) (pa_cons (pv 1) pa_nil))) pe_int) (fun _ _ => rfl)) (pa_cons (pe_ix ix_tup (pv 1) (pe_op op_sub (pe_callB call_len_seq (by rfl) T.n_len (by decide +kernel) (pa_cons (pv 1) pa_nil)) pe_int) (fun _ _ => rfl)) pa_nil))))
        (pss_cons (ps_asg (pv 5) (pg_sub (pv 3) (pv 4) set_list))
        (pss_one (ps_for PassesOwn.never rfl (pi_range1 rfl T.n_range (pa_cons (pe_callB call_len_seq (by rfl) T.n_len (by decide +kernel) (pa_cons (pv 1) pa_nil)) pa_nil)) (pg_name (i := 6) nd rfl (Or.inl rfl) (Or.inr rfl)) (pss_one (ps_asg (pe_d D_law_minus (hr.mono (by decide)) rfl (pa_cons (pe_ix ix_list (pv 2) (pe_op op_add (pv 4) (pv 6)) (fun _ _ => rfl)) (pa_cons (pe_d D_law_times (hr.mono (by decide)) rfl (pa_cons (pv 5) (pa_cons (pe_ix ix_tup (pv 1) (pv 6) (fun _ _ => rfl)) pa_nil))) pa_nil))) (pg_sub (pv 2) (pe_op op_add (pv 4) (pv 6)) set_list))))))))
        (pss_one (ps_ret (pe_tup (pa_cons (pe_d D_law_trim (hr.mono (by decide)) rfl (pa_cons (pv 3) pa_nil)) (pa_cons (pe_d D_law_trim (hr.mono (by decide)) rfl (pa_cons (pv 2) pa_nil)) pa_nil))))))), ?_⟩
    have haO : SqL K H a1 us ∨ SqT K H a1 us := Or.inr ha
    walk_at "r0"
    intro pr hpr
    have s0 := same_new (o := .lst us) hpr
    have e0 : upd H pr (.lst us) pr = some (.lst us) := upd_same
    generalize upd H pr (.lst us) = H0 at s0 e0
    walk_at "r0"
    intro p0 hp0
    have sp0 := same_new (o := .tup [V.int 0, V.int 1]) hp0
    have q0 : SqT K (upd H0 p0 (.tup [V.int 0, V.int 1])) p0 [V.int 0, V.int 1] := SqT.of upd_same
    have e1 := sp0 _ _ e0
    have s1 := s0.trans sp0
    generalize upd H0 p0 (.tup [V.int 0, V.int 1]) = H1 at *
    walk_at "r0"
    intro p1 hp1
    have sp1 := same_new (o := .lst [V.ref p0]) hp1
    have q1 : upd H1 p1 (.lst [V.ref p0]) p1 = some (.lst [V.ref p0]) := upd_same
    have e2' := sp1 _ _ e1
    have s2 := s1.trans sp1
    have q02 := same_seqT sp1 q0
    generalize upd H1 p1 (.lst [V.ref p0]) = H2 at *
    have ha2 : SqL K H2 a1 us ∨ SqT K H2 a1 us := Or.inr (same_seqT s2 ha)
    have hb2 : SqL K H2 a2 vs ∨ SqT K H2 a2 vs := Or.inr (same_seqT s2 hb)
    obtain ⟨many, hmany, hmn⟩ : ∃ many : Nat, (if (0 : Int) > (us.length : Int) - (vs.length : Int) + 1 then (0 : Int) else (us.length : Int) - (vs.length : Int) + 1) = (many : Int) ∧ many = ps.length + 1 - qs.length := by
      refine ⟨ps.length + 1 - qs.length, ?_, rfl⟩
      split <;> omega
    have hmL : [V.ref p0].length * ((many : Int)).toNat ≤ sizeLine := by
      show 1 * _ ≤ _
      rw [Int.toNat_natCast, sizeLine_eq]
      omega
    have hm1 : -(2 ^ 63) ≤ (many : Int) := by omega
    have hm2 : (many : Int) < 2 ^ 63 := by omega
    refine ⟨_, rfl, a1, us, rfl, ha2, _, rfl, a2, vs, rfl, hb2, _, _, rfl, rfl, ?_⟩
    refine ⟨_, _, rfl, rfl, _, _, rfl, ?_⟩
    rw [hmany]
    refine ⟨p1, (many : Int), [V.ref p0], rfl, rfl, q1, hm1, hm2, hmL, fun pq hpq => ?_⟩
    have ef : (List.replicate (many : Int).toNat [V.ref p0]).flatten = List.replicate many (V.ref p0) := by
      rw [Int.toNat_natCast]
      generalize many = k
      induction k with
      | zero => rfl
      | succ k ih => rw [List.replicate_succ, List.flatten_cons, ih, List.replicate_succ]; rfl
    rw [ef]
    have hpH : H pr = none := hpr
    have hqH : H pq = none := s2.free hpq
    have rq : pr ≠ pq := fun z => by rw [z, hpq] at e2'; cases e2'
    have s3 : Same H (upd H2 pq (.lst (List.replicate many (V.ref p0)))) := s2.trans (same_new hpq)
    have eq3 : upd H2 pq (.lst (List.replicate many (V.ref p0))) pq = some (.lst (List.replicate many (V.ref p0))) := upd_same
    have er3 : upd H2 pq (.lst (List.replicate many (V.ref p0))) pr = some (.lst us) := by rw [upd_ne rq]; exact e2'
    have f0 : FrT K H2 (.ref p0) 0 := ⟨p0, rfl, q02⟩
    have f3 : FrT K (upd H2 pq (.lst (List.replicate many (V.ref p0)))) (.ref p0) 0 := f0.mono (same_t (same_new hpq))
    have g3 : FrA K (upd H2 pq (.lst (List.replicate many (V.ref p0)))) us ps := fra_mono (same_t s3) hA
    generalize upd H2 pq (.lst (List.replicate many (V.ref p0))) = H3 at *
    have gq3 : FrA K H3 (List.replicate many (V.ref p0)) (List.replicate many 0) := by
      generalize many = k
      induction k with
      | zero => exact .nil
      | succ k ih => exact .cons f3 ih
    refine ⟨_, _, rfl, ?_⟩
    have ha3 : SqL K H3 a1 us ∨ SqT K H3 a1 us := Or.inr (same_seqT s3 ha)
    have hb3 : SqL K H3 a2 vs ∨ SqT K H3 a2 vs := Or.inr (same_seqT s3 hb)
    have hrg : RgC ((us.length : Int) - (vs.length : Int)) (-1) (-1) many := by
      have := RgC.neg (i := (us.length : Int) - (vs.length : Int)) (j := -1) (by omega) (by omega) (by omega) (by omega)
      have e : ((us.length : Int) - (vs.length : Int) - -1).toNat = many := by omega
      rwa [e] at this
    have hq1 := List.length_pos_iff.mpr nq
    refine ⟨_, rfl, a1, us, rfl, ha3, _, rfl, a2, vs, rfl, hb3, _, _, rfl, rfl, ?_⟩
    refine ⟨_, rfl, _, rfl, _, _, _, many, rfl, hrg, for_rangeC (n := many) (fun i σ H' => ∃ (ar aq : List V) (rs q' : List Rat) (o4 o5 o6 : Option V), σ = [some (.ref a1), some (.ref a2), some (.ref pr), some (.ref pq), o4, o5, o6] ∧ Same H H' ∧ H' pr = some (.lst ar) ∧ H' pq = some (.lst aq) ∧ FrA K H' ar rs ∧ FrA K H' aq q' ∧ rs.length = ps.length ∧ q'.length = many ∧ (∀ z, ev ps z = ev q' z * ev qs z + ev rs z) ∧ (∀ j, ps.length - i ≤ j → at0 rs j = 0) ∧ (∀ j, j < many - i → at0 q' j = 0) ∧ Cd (d + i * e2) (e + i * (e2 + 1)) rs)
      ⟨us, _, ps, _, none, none, none, rfl, s3, er3, eq3, g3, gq3, rfl, List.length_replicate, fun z => ?_, fun j hj => at0_out (by omega), fun j hj => ?_, by rw [Nat.zero_mul, Nat.zero_mul]; exact cp⟩ ?_ ?_⟩
    · rw [ev_replicate0]
      grind
    · exact at0_some (by rw [List.getElem?_replicate, if_pos (by omega)])
    · rintro i σ H4 hi ⟨ar, aq, rs, q', o4, o5, o6, rfl, s4, er4, eq4, gr4, gq4, lrs, lq', hev, htop, hlow, cdr⟩
      obtain ⟨k, hk⟩ : ∃ k, k + i + 1 = many := ⟨many - 1 - i, by omega⟩
      have hx : (us.length : Int) - (vs.length : Int) + (i : Nat) * (-1) = (k : Int) := by omega
      have hx' : (-(1 : Int)) = -1 := rfl
      have lar := gr4.length
      have laq := gq4.length
      have hkL : k + qs.length - 1 < ps.length := by omega
      obtain ⟨c, hc⟩ : ∃ c, rs[k + qs.length - 1]? = some c := ⟨_, List.getElem?_eq_getElem (by omega)⟩
      obtain ⟨vc, hvc, hfc⟩ := gr4.get' hc
      obtain ⟨b, hb'⟩ : ∃ b, qs[qs.length - 1]? = some b := ⟨_, List.getElem?_eq_getElem (by omega)⟩
      obtain ⟨vb, hvb, hfb⟩ := hB.get' hb'
      have b0 : b ≠ 0 := by
        have := tq nq
        rw [List.getLast_eq_getElem] at this
        rw [List.getElem?_eq_getElem (by omega)] at hb'
        rwa [Option.some.inj hb'] at this
      have hatr : atI ar ((k : Int) + (vs.length : Int) - 1) = some vc := at_of (j := k + qs.length - 1) (by omega) hvc
      have hatt : atI vs ((vs.length : Int) - 1) = some vb := at_of (j := qs.length - 1) (by omega) hvb
      have cM := List.mem_of_getElem? hc
      have bM := List.mem_of_getElem? hb'
      obtain ⟨⟨D, D0, Dle, hOr, hOt⟩, zby⟩ := turn_ov cdr cq cM bM b0
      have hi2 : (i + 1) * (e2 + 1) ≤ N * (e2 + 1) := Nat.mul_le_mul_right _ (by omega)
      have hi3 : (i + 1) * e2 ≤ (i + 1) * (e2 + 1) := Nat.mul_le_mul_left _ (Nat.le_succ _)
      have hi4 : (i + 1) * (e2 + 1) = i * (e2 + 1) + e2 + 1 := by rw [Nat.add_mul, Nat.one_mul]; omega
      have hi5 : (i + 1) * e2 = i * e2 + e2 := by rw [Nat.add_mul, Nat.one_mul]
      generalize hEi : e + i * (e2 + 1) = Ei at *
      generalize hDi : d + i * e2 = Di at *
      have zc : Qz 3900 c := cd_lt1 cdr (by omega) (by omega) c cM
      have zb : Qz 3900 b := cd_lt1 cq (by omega) (by omega) b bM
      have hb4 : SqL K H4 a2 vs ∨ SqT K H4 a2 vs := Or.inr (same_seqT s4 hb)
      have hbT4 := same_seqT s4 hb
      rw [hx]
      have zby' : Qz 3900 (c / b) := zby.mono (by omega)
      refine ⟨_, rfl, _, rfl, _, rfl, a2, vs, rfl, hb4, _, _, rfl, rfl, _, _, rfl, rfl, pr, ar, _, _, rfl, rfl, SqL.of er4, hatr, ?_⟩
      refine ⟨_, rfl, _, rfl, a2, vs, rfl, hb4, _, _, rfl, rfl, a2, vs, _, _, rfl, rfl, hbT4, hatt, ?_⟩
      refine ⟨vc, vb, c, b, rfl, hfc, hfb.mono (same_t s4), b0, zc, zb, fun vby H5 s5 hvby => ?_⟩
      have er5 := s5 _ _ er4
      have eq5 := s5 _ _ eq4
      have gr5 := fra_mono (same_t s5) gr4
      have gq5 := fra_mono (same_t s5) gq4
      have s05 := s4.trans s5
      refine ⟨_, rfl, _, rfl, _, rfl, pq, aq, _, k, rfl, rfl, eq5, ixN_nat (by omega), ?_⟩
      have st6 : SameT H5 (upd H5 pq (.lst (aq.set k vby))) := samet_lst eq5
      have s6 : Same H (upd H5 pq (.lst (aq.set k vby))) := fun c o e => by rw [upd_ne (ne_of_none e hqH)]; exact s05 _ _ e
      have er6 : upd H5 pq (.lst (aq.set k vby)) pr = some (.lst ar) := by rw [upd_ne rq]; exact er5
      have eq6 : upd H5 pq (.lst (aq.set k vby)) pq = some (.lst (aq.set k vby)) := upd_same
      have gr6 := fra_mono st6 gr5
      have gq6 : FrA K (upd H5 pq (.lst (aq.set k vby))) (aq.set k vby) (q'.set k (c / b)) := Al.set (fra_mono st6 gq5) k (hvby.mono st6)
      have hvby6 := hvby.mono st6
      generalize upd H5 pq (.lst (aq.set k vby)) = H6 at *
      have hb6 : SqL K H6 a2 vs ∨ SqT K H6 a2 vs := Or.inr (same_seqT s6 hb)
      refine ⟨_, rfl, a2, vs, rfl, hb6, (vs.length : Int), rfl, by omega, by omega, for_range (n := vs.length) (fun j σ H' => ∃ (ar' : List V) (rs' : List Rat) (o6 : Option V), σ = [some (.ref a1), some (.ref a2), some (.ref pr), some (.ref pq), some (.int (k : Int)), some vby, o6] ∧ (∀ c o, H6 c = some o → c ≠ pr → H' c = some o) ∧ H' pr = some (.lst ar') ∧ FrA K H' ar' rs' ∧ rs'.length = ps.length ∧ (∀ z, ev rs' z = ev rs z - c / b * z ^ k * ev (qs.take j) z) ∧ (∀ x ∈ rs', Ov D (Ei + e2 + 1) x) ∧ (∀ m, m < k ∨ k + j ≤ m → rs'[m]? = rs[m]?) ∧ (∀ m, m < j → at0 rs' (k + m) = at0 rs (k + m) - c / b * at0 qs m))
        ⟨ar, rs, _, rfl, fun _ _ e _ => e, er6, gr6, lrs, fun z => ?_, fun x hx => (hOr x hx).mono (by omega), fun _ _ => rfl, fun m hm => absurd hm (Nat.not_lt_zero _)⟩ ?_ ?_⟩
      · rw [List.take_zero, ev_nil]
        grind
      · rintro j σ H7 hj ⟨ar', rs', o6', rfl, kp, er7, gr7, lrs7, hev7, hov7, hsame7, hdone7⟩
        have st67 : SameT H6 H7 := fun c o e nl => kp c o e fun z => by
          rw [z, er6] at e
          cases e
          exact nl _ rfl
        have s7 : Same H H7 := fun c o e => kp _ _ (s6 _ _ e) (ne_of_none e hpH)
        have hkj : k + j < ps.length := by omega
        have lar7 := gr7.length
        obtain ⟨x1, hx1⟩ : ∃ x1, rs'[k + j]? = some x1 := ⟨_, List.getElem?_eq_getElem (by omega)⟩
        obtain ⟨v1, hv1, hf1⟩ := gr7.get' hx1
        obtain ⟨y1, hy1⟩ : ∃ y1, qs[j]? = some y1 := ⟨_, List.getElem?_eq_getElem (by omega)⟩
        obtain ⟨w1, hw1, hg1⟩ := hB.get' hy1
        have eij : (k : Int) + (0 + (j : Int)) = ((k + j : Nat) : Int) := by omega
        have hat1 : atI ar' ((k : Int) + (0 + (j : Int))) = some v1 := at_of (j := k + j) (by omega) hv1
        have hat2 : atI vs (0 + (j : Int)) = some w1 := at_of (j := j) (by omega) hw1
        have hbT7 := same_seqT s7 hb
        have ox := hov7 x1 (List.mem_of_getElem? hx1)
        have oy := hOt y1 (List.mem_of_getElem? hy1)
        have zx : Qz 3900 x1 := ox.qz D0 Dle (by omega) (by omega)
        have zy : Qz 3900 y1 := cd_lt1 cq (by omega) (by omega) y1 (List.mem_of_getElem? hy1)
        have zxy : Qz 3900 (c / b * y1) := oy.qz D0 Dle (by omega) (by omega)
        refine ⟨_, rfl, _, rfl, _, rfl, _, _, rfl, rfl, pr, ar', _, _, rfl, rfl, SqL.of er7, hat1, ?_⟩
        refine ⟨_, rfl, _, rfl, _, rfl, a2, vs, _, _, rfl, rfl, hbT7, hat2, ?_⟩
        refine ⟨vby, w1, c / b, y1, rfl, hvby6.mono st67, hg1.mono (same_t s7), zby', zy, fun v5 H8 s8 hv5 => ?_⟩
        refine ⟨v1, v5, x1, c / b * y1, rfl, hf1.mono (same_t s8), hv5, zx, zxy, fun v6 H9 s9 hv6 => ?_⟩
        have s89 := s8.trans s9
        have er9 := s89 _ _ er7
        refine ⟨_, rfl, _, rfl, _, rfl, _, _, rfl, rfl, pr, ar', _, k + j, rfl, rfl, er9, by rw [eij]; exact ixN_nat (by omega), ?_⟩
        have st9 := samet_lst (ys := ar'.set (k + j) v6) er9
        refine ⟨ar'.set (k + j) v6, rs'.set (k + j) (x1 - c / b * y1), _, rfl, fun c o e nc => ?_, upd_same, Al.set (fra_mono ((same_t s89).trans st9) gr7) _ (hv6.mono st9), by rw [List.length_set]; exact lrs7, fun z => ?_, fun x hx => ?_, fun m hm => ?_, fun m hm => ?_⟩
        · rw [upd_ne nc]
          exact s89 _ _ (kp _ _ e nc)
        · have hk1 : k + j < rs'.length := by omega
          have e1 : rs'[k + j] = x1 := by
            rw [List.getElem?_eq_getElem hk1] at hx1
            exact Option.some.inj hx1
          have e2 : x1 - c / b * y1 = rs'[k + j] + -(c / b * y1) := by rw [e1]; grind
          rw [e2, ev_set hk1, hev7, rw_take_succ hy1, rpow_add]
          grind
        · rcases List.mem_or_eq_of_mem_set hx with h' | h'
          · exact hov7 x h'
          · rw [h']
            have e1 : rs'[k + j]? = rs[k + j]? := hsame7 (k + j) (Or.inr (Nat.le_refl _))
            have o1 := hOr x1 (List.mem_of_getElem? (by rw [← e1]; exact hx1))
            exact Ov.sub o1 oy
        · rw [List.getElem?_set_ne (by omega)]
          exact hsame7 m (by omega)
        · have e1 : rs'[k + j]? = rs[k + j]? := hsame7 (k + j) (Or.inr (Nat.le_refl _))
          rcases Nat.lt_or_eq_of_le (Nat.le_of_lt_succ hm) with h | rfl
          · rw [← hdone7 m h]
            unfold at0
            rw [List.getD_eq_getElem?_getD, List.getD_eq_getElem?_getD, List.getElem?_set_ne (by omega)]
          · have h1 : (rs'.set (k + m) (x1 - c / b * y1))[k + m]? = some (x1 - c / b * y1) := by
              rw [List.getElem?_set_self (by omega)]
            rw [at0_some h1, at0_some hy1, at0_some (by rw [← e1]; exact hx1)]
      · rintro σ H7 ⟨ar', rs', o6', rfl, kp, er7, gr7, lrs7, hev7, hov7, hsame7, hdone7⟩
        rw [hL2, List.take_length] at hev7
        rw [hL2] at hdone7 hsame7
        have st67 : SameT H6 H7 := fun c o e nl => kp c o e fun z => by
          rw [z, er6] at e
          cases e
          exact nl _ rfl
        have hqk : q'[k]? = some 0 := by
          have h1 := hlow k (by omega)
          rw [List.getElem?_eq_getElem (by omega)]
          have h2 := at0_some (List.getElem?_eq_getElem (show k < q'.length by omega))
          rw [h1] at h2
          rw [← h2]
        refine ⟨ar', aq.set k vby, rs', q'.set k (c / b), _, _, _, rfl, fun c o e => kp _ _ (s6 _ _ e) (ne_of_none e hpH), er7, kp _ _ eq6 (Ne.symm rq), gr7, fra_mono st67 gq6, lrs7, by rw [List.length_set]; exact lq', fun z => ?_, fun j hj => ?_, fun j hj => ?_, ?_⟩
        · have hk1 : k < q'.length := by omega
          have e1 : c / b = q'[k] + c / b := by
            rw [List.getElem?_eq_getElem hk1] at hqk
            rw [Option.some.inj hqk]
            grind
          have e3 : ev (q'.set k (c / b)) z = ev q' z + c / b * z ^ k := by
            have := ev_set hk1 (c / b) z
            rwa [← e1] at this
          rw [e3, hev7, hev]
          grind
        · rcases Nat.lt_or_ge j (k + qs.length) with h | h
          · have : j = k + (qs.length - 1) := by omega
            rw [this, hdone7 _ (by omega), at0_some hb', at0_some (by rw [show k + (qs.length - 1) = k + qs.length - 1 by omega]; exact hc)]
            grind
          · have h1 := hsame7 j (Or.inr h)
            have h2 := htop j (by omega)
            unfold at0 at h2 ⊢
            rw [List.getD_eq_getElem?_getD] at h2 ⊢
            rw [h1, h2]
        · have h2 := hlow j (by omega)
          unfold at0 at h2 ⊢
          rw [List.getD_eq_getElem?_getD] at h2 ⊢
          rw [List.getElem?_set_ne (by omega), h2]
        · have e7 : e + (i + 1) * (e2 + 1) = Ei + e2 + 1 := by omega
          have e8 : d + (i + 1) * e2 = Di + e2 := by omega
          rw [e7, e8]
          exact ⟨D, D0, Dle, fun x hx => hov7 x hx⟩
    · rintro σ H4 ⟨ar, aq, rs, q', o4, o5, o6, rfl, s4, er4, eq4, gr4, gq4, lrs, lq', hev, htop, hlow, cdr⟩
      have lar := gr4.length
      have laq := gq4.length
      refine ⟨_, rfl, pq, aq, q', rfl, SqL.of eq4, gq4, by omega, fun v1 H5 m1 s5 t1 z1 hv1 => ?_⟩
      refine ⟨_, rfl, pr, ar, rs, rfl, SqL.of (s5 _ _ er4), fra_mono (same_t s5) gr4, by omega, fun v2 H6 m2 s6 t2 z2 hv2 => ?_⟩
      refine ⟨by show 2 ≤ sizeLine; rw [sizeLine_eq]; decide, fun p hp => ?_⟩
      have s7 := same_new (o := .tup [v1, v2]) hp
      refine q p v1 v2 (q'.take m1) (rs.take m2) _ (s4.trans (s5.trans (s6.trans s7))) (SqT.of upd_same) (hv1.mono (same_t (s6.trans s7))) (hv2.mono (same_t s7)) t1 t2 (fun z => ?_) ?_ (by rw [List.length_take]; omega) ?_
      · rw [ev_take_drop _ _ z1 z, ev_take_drop _ _ z2 z]
        exact hev z
      · refine Nat.lt_of_not_le fun h => ?_
        rw [List.length_take] at h
        have hne : rs.take m2 ≠ [] := fun z => by
          have := congrArg List.length z
          rw [List.length_take, List.length_nil] at this
          omega
        have h1 := t2 hne
        rw [List.getLast_eq_getElem] at h1
        have hlen : (rs.take m2).length = min m2 rs.length := List.length_take
        have h3 : (rs.take m2)[(rs.take m2).length - 1]? = some ((rs.take m2)[(rs.take m2).length - 1]'(by have := List.length_pos_iff.mpr hne; omega)) := List.getElem?_eq_getElem _
        rw [List.getElem?_take_of_lt (by rw [hlen]; omega)] at h3
        have h4 := htop ((rs.take m2).length - 1) (by rw [hlen]; omega)
        rw [at0_some h3] at h4
        exact h1 h4
      · have hm := Nat.mul_le_mul_right (e2 + 1) (show many ≤ N by omega)
        have hm' := Nat.mul_le_mul_right e2 (show many ≤ N by omega)
        refine cd_mono ?_ (Nat.add_le_add_left hm' d) (Nat.add_le_add_left hm e)
        obtain ⟨D, d0, d1, d2'⟩ := cdr
        exact ⟨D, d0, d1, fun x hx => d2' x (List.mem_of_mem_take hx)⟩
end
end Vx
namespace Vx
open PySem PySem.Spec PyProof.Rows L2
local macro_rules | `(tactic| walk_at "cl") => `(tactic| first | assumption | exact Bz.mono (Bz.mul (by assumption) (by assumption)) (by decide) | rfl | omega | exact sz_of 0 rfl (by decide) | exact sz_of 1 rfl (by decide) | exact sz_of 2 rfl (by decide) | exact sz_of 3 rfl (by decide) | exact cmulx (by assumption) (by assumption) (by decide) | exact Bz.mono (Bz.mul (by assumption) (by assumption)) (by decide) | decide)
local macro_rules | `(tactic| walk_at "ex") => `(tactic| ((show Exists _); first | apply @Exists.intro V | apply @Exists.intro Int | apply @Exists.intro Addr | apply @Exists.intro (List V) | apply @Exists.intro Nat | apply @Exists.intro Str | apply @Exists.intro Bool | apply @Exists.intro (Option V) | apply @Exists.intro String | apply @Exists.intro Rat | apply @Exists.intro (List Rat)))
local macro_rules | `(tactic| walk_at "rd") => `(tactic| ((repeat (first | (walk_at "ex") | (apply And.intro; (focus (walk_at "cl"))))); (try dsimp only [])))
local macro_rules | `(tactic| walk_at "r0") => `(tactic| (repeat (first | (walk_at "ex") | (apply And.intro; (focus (walk_at "cl"))))))
theorem gcd_step {p t q r g : List Rat} (h : ∀ z, ev p z = ev q z * ev t z + ev r z) (G : Gcd t r g) : Gcd p t g := by
  obtain ⟨x, hx⟩ := G.l
  obtain ⟨y, hy⟩ := G.r
  obtain ⟨a, b, hab⟩ := G.b
  refine ⟨G.tr, G.ld, ⟨ladd (pmul q x) y, fun z => ?_⟩, ⟨x, hx⟩, ⟨b, ladd a (smul (-1) (pmul b q)), fun z => ?_⟩⟩
  · rw [h, ev_ladd, ev_pmul, hx, hy]
    grind
  · rw [ev_ladd, ev_smul, ev_pmul, hab, h]
    grind
theorem gcd_end {p : List Rat} {c : Rat} (tp : Tr p) (hc : IsFirst p c) : Gcd p [] (smul (1 / c) p) := by
  have h1 : (1 : Rat) / c ≠ 0 := by have := hc.1; grind
  refine ⟨tr_smul h1 tp, first_lead hc, ⟨[c], fun z => ?_⟩, ⟨[], fun z => ?_⟩, ⟨[1 / c], [], fun z => ?_⟩⟩
  · rw [ev_smul, show ev [c] z = c + z * 0 from rfl]
    have := hc.1
    grind
  · rw [ev_nil, Rat.zero_mul]
  · rw [ev_smul, ev_nil, show ev [1 / c] z = 1 / c + z * 0 from rfl]
    grind
/-- the sizes along the law's own chain: of la and lb numbers beside the common row, of e1 and e2 bits -/
def okC : Nat → Nat → Nat → Nat → Nat → Bool
  | 0, _, lb, e1, _ => lb == 0 && decide (e1 ≤ 3800)
  | f + 1, la, lb, e1, e2 => decide (e1 ≤ 3800) && (lb == 0 || (decide (2 * (e1 + (la + 1 - lb) * (e2 + 1)) + 2 * e2 + 3 ≤ 3900) && (List.range lb).all fun lc => okC f lb lc e2 (e1 + (la + 1 - lb) * (e2 + 1))))
section
variable {P : Program} {w : World} {K : PySem.W.Frag} {mg : Str → Option Value} {base : Heap}
/-- _law_low: over its first number that is not 0 -/
def spLowF (K : PySem.W.Frag) : Sp := fun vs H Q _ => ∃ (x : V) (qs : List Rat) (b : Nat), vs = [x] ∧ RwT K H x qs ∧ Tr qs ∧ qs ≠ [] ∧ Qs b qs ∧ b ≤ 3900 ∧ qs.length < 900 ∧ ∀ c v H', Same H H' → IsFirst qs c → RwT K H' v (smul (1 / c) qs) → Q v H'
theorem d__law_lowF (W : FunIn K mg "_law_low" s__law_low) (D_law_scaled : Df P w K mg base "_law_scaled" 35 ["row", "by"] (spScale K)) (D_law_over : Df P w K mg base "_law_over" 34 ["one", "two"] (spQ2 K)) : Df P w K mg base "_law_low" 36 ["row"] (spLowF K) := by
  obtain ⟨f, fd, F, hm⟩ := W
  refine ⟨f, fd, F.ok sc__law_low (fun vs H Q E h => ?_) (fun cdv A outer s H vs Q E hr h => ?_), hm, F.kp, F.binds fun _ _ _ _ _ _ us hl => match us, hl with | [_], _ => rfl⟩
  · obtain ⟨x, qs, b, rfl, _⟩ := h
    rfl
  · obtain ⟨x, qs, b, rfl, ⟨a, us, rfl, ha, hA⟩, ht, nq, zq, hb, hlen, q⟩ := h
    have nd := sc__law_low.nd
    have hL := hA.length
    have hrow : RwT K H (.ref a) qs := ⟨a, us, rfl, ha, hA⟩
    obtain ⟨i0, c, hi0, hc0, hi1⟩ := tr_first (l := qs) ⟨_, List.getLast_mem nq, ht nq⟩
    have i0l : i0 < qs.length := (List.getElem?_eq_some_iff.mp hi0).1
    obtain ⟨u0, hu0, hf0⟩ := hA.get' hi0
    refine ⟨_, (pss_cons (ps_setLc (i := 1) (own := [("each", 2)]) rfl nd rfl rfl (sw_true rfl rfl rfl (by decide +kernel)) (pi_tup (pv 0)) (blkOk_by (own := [("each", 2)]) (N := ["row", "some", "each"]) (sc := defScope s__law_low) (by decide +kernel)) (fun _ _ _ _ _ => (pg_name (i := 2) nd rfl (Or.inl rfl) (Or.inr rfl))) (fun _ _ _ _ _ => (pts_one (pt_cmpR op_ne (pe_ix (ix_tupK (K := K) rfl) (pv 2) pe_int (fun _ _ => rfl)) pe_int (nomark _)))) (fun _ _ _ _ _ => (pv 2)))
        (pss_one (ps_ret (pe_d D_law_scaled (hr.mono (by decide)) rfl (pa_cons (pv 0) (pa_cons (pe_d D_law_over (hr.mono (by decide)) rfl (pa_cons (pe_tup (pa_cons pe_int (pa_cons pe_int pa_nil))) (pa_cons (pe_ix ix_list (pv 1) pe_int (fun _ _ => rfl)) pa_nil))) pa_nil)))))), ?_⟩
    refine ⟨_, rfl, a, rfl, ⟨us, ha⟩, fun D hD => lc_it (walk_tup (K := K) (a := a) (xs := us)) (fun i H1 => Same H H1 ∧ ∃ acc, H1 D = some (.lst acc) ∧ acc.length ≤ i ∧ (i ≤ i0 → acc = []) ∧ (i0 < i → acc[0]? = some u0)) ⟨same_new hD, [], upd_same, Nat.le_refl _, fun _ => rfl, fun z => absurd z (Nat.not_lt_zero _)⟩ (fun i H1 _ p => same_seqT p.1 ha) ?_ ?_⟩
    · rintro i u H1 H2 hi ⟨s1, acc, e1, l1, pe, p1⟩ ⟨rfl, hu⟩
      obtain ⟨r, hr1, hfr⟩ := hA.get hu
      have hfr1 := hfr.mono (same_t s1)
      obtain ⟨e, rfl, he⟩ := hfr1
      have hat : atI [V.int r.num, V.int (r.den : Int)] 0 = some (V.int r.num) := rfl
      refine ⟨rfl, ?_⟩
      walk_at "r0"
      refine tifn (fun hne => ?_) (fun hz => ?_)
      · have hge : i0 ≤ i := Nat.le_of_not_lt fun h => hne (by
          have h1 := hi1 i h
          rw [at0_some hr1] at h1
          rw [h1]
          rfl)
        refine ⟨_, rfl, acc, e1, by rw [sizeLine_eq]; omega, fun c o ec => ?_, acc ++ [V.ref e], upd_same, by rw [List.length_append]; show _ + 1 ≤ _; omega, fun h => by omega, fun _ => ?_⟩
        · rw [upd_ne (ne_of_none ec hD)]
          exact s1 _ _ ec
        · rcases Nat.lt_or_eq_of_le hge with h | h
          · have := p1 h
            have hl : 0 < acc.length := (List.getElem?_eq_some_iff.mp this).1
            rw [List.getElem?_append_left hl]
            exact this
          · subst h
            rw [pe (Nat.le_refl _)]
            show some (V.ref e) = some u0
            rw [← hu, hu0]
      · refine ⟨s1, acc, e1, by omega, fun h => pe (by omega), fun h => ?_⟩
        rcases Nat.lt_or_eq_of_le (Nat.le_of_lt_succ h) with h | h
        · exact p1 h
        · subst h
          exfalso
          rw [hi0] at hr1
          have e3 := Option.some.inj hr1
          exact hc0 (by rw [e3]; exact Rat.num_eq_zero.mp (V.int.inj hz))
    · rintro H1 ⟨s1, acc, e1, l1, pe, p1⟩
      have p0 := p1 (by omega)
      have hl1 : SqL K H1 D acc := SqL.of e1
      have hat : atI acc 0 = some u0 := atI_nat (j := 0) p0
      have hrow1 := hrow.mono (same_t s1)
      refine ⟨V.ref a, rfl, ?_⟩
      refine ⟨sz_of 2 rfl (by decide), fun p2 hp2 => ?_⟩
      have s2 := same_new (o := .tup [V.int 1, V.int 1]) hp2
      have q2 : SqT K (upd H1 p2 (.tup [V.int 1, V.int 1])) p2 [V.int 1, V.int 1] := SqT.of upd_same
      have e2 := s2 _ _ e1
      generalize upd H1 p2 (.tup [V.int 1, V.int 1]) = H2 at s2 q2 e2
      have f1 : FrT K H2 (.ref p2) 1 := ⟨p2, rfl, q2⟩
      have f0 : FrT K H2 u0 c := hf0.mono (same_t (s1.trans s2))
      have z0 : Qz b c := zq _ (List.mem_of_getElem? hi0)
      refine ⟨V.ref D, rfl, D, acc, 0, u0, rfl, rfl, SqL.of e2, hat, V.ref p2, u0, 1, c, rfl, f1, f0, hc0, qz1 (by decide), z0.mono hb, fun v H3 s3 hv => ?_⟩
      refine ⟨V.ref a, v, qs, 1 / c, b, b, rfl, hrow1.mono (same_t (s2.trans s3)), hv, zq, qz_inv z0 hc0, hb, hb, hlen, fun v4 r4 H4 s4 hv4 ht4 hev4 _ _ => ?_⟩
      have er : r4 = smul (1 / c) qs := ev_inj ht4 (tr_smul (by grind) ht) fun z => by rw [hev4]; exact (ev_scale _ _ _).symm
      subst er
      exact q c v4 H4 (s1.trans (s2.trans (s3.trans s4))) ⟨hc0, i0, hi0, hi1⟩ hv4
/-- _law_divisor -/
def spLaDiv (K : PySem.W.Frag) : Sp := fun vs H Q _ => ∃ (x y : V) (ps qs s a b : List Rat) (e1 e2 : Nat), vs = [x, y] ∧ RwT K H x ps ∧ RwT K H y qs ∧ Tr ps ∧ Tr qs ∧ (ps ≠ [] ∨ qs ≠ []) ∧ Tr s ∧ s ≠ [] ∧ Tr a ∧ Tr b ∧ (∀ z, ev ps z = ev a z * ev s z) ∧ (∀ z, ev qs z = ev b z * ev s z) ∧ Cd e1 e1 ps ∧ Cd e2 e2 qs ∧ ps.length < 90 ∧ qs.length < 90 ∧ okC (b.length + 1) a.length b.length e1 e2 = true ∧
  ∀ v g H', Same H H' → RwT K H' v g → Gcd ps qs g → Q v H'
theorem sc__law_divisor : FnScope ["one", "two", "turn"] ["one", "two"] (defScope s__law_divisor) := ⟨rfl, rfl, rfl, by decide +kernel, rfl, by decide +kernel, by decide +kernel⟩
theorem d__law_divisor (W : FunIn K mg "_law_divisor" s__law_divisor) (T : Blt mg) (D_law_parted : Df P w K mg base "_law_parted" 35 ["one", "two"] (spLaPart K)) (D_law_low : Df P w K mg base "_law_low" 36 ["row"] (spLowF K)) : Df P w K mg base "_law_divisor" 37 ["one", "two"] (spLaDiv K) := by
  obtain ⟨f, fd, F, hm⟩ := W
  refine ⟨f, fd, F.ok sc__law_divisor (fun vs H Q E h => ?_) (fun cdv A outer s H vs Q E hr h => ?_), hm, F.kp, F.binds fun _ _ _ _ _ _ us hl => match us, hl with | [_, _], _ => rfl⟩
  · obtain ⟨x, y, ps, qs, s, a, b, e1, e2, rfl, _⟩ := h
    rfl
  · obtain ⟨x, y, ps, qs, s, a, b, e1, e2, rfl, hx, hy, tp, tq, hne, ts, ns, ta, tb, ha, hb, cp, cq, lp, lq, hok, q⟩ := h
    have nd := sc__law_divisor.nd
    refine ⟨_, (pss_cons (ps_for PassesOwn.never rfl (pi_range1 rfl T.n_range (pa_cons (pe_op op_add (pe_op op_add (pe_callB call_len_seq (by rfl) T.n_len (by decide +kernel) (pa_cons (pv 0) pa_nil)) (pe_callB call_len_seq (by rfl) T.n_len (by decide +kernel) (pa_cons (pv 1) pa_nil))) pe_int) pa_nil)) (pg_name (i := 2) nd rfl (Or.inl rfl) (Or.inr rfl)) (pss_cons (ps_if (pt_cmpR (op_eqD (hu64 hr)) (pv 1) (pe_tup pa_nil) (nomark _)) (pss_one ps_break) pss_nil)
        (pss_one (ps_par (i := 0) (j := 1) (by rfl) nd rfl rfl (by decide) rfl rfl (pa_cons (pv 1) (pa_cons (pe_ix ix_tup (pe_d D_law_parted (hr.mono (by decide)) rfl (pa_cons (pv 0) (pa_cons (pv 1) pa_nil))) pe_int (fun _ _ => rfl)) pa_nil)) (by rfl)))))
        (pss_one (ps_ret (pe_d D_law_low (hr.mono (by decide)) rfl (pa_cons (pv 0) pa_nil))))), ?_⟩
    obtain ⟨ax, us, rfl, hax, hA⟩ := hx
    obtain ⟨ay, vs, rfl, hay, hB⟩ := hy
    have hL1 := hA.length
    have hL2 := hB.length
    have haO : SqL K H ax us ∨ SqT K H ax us := Or.inr hax
    have hbO : SqL K H ay vs ∨ SqT K H ay vs := Or.inr hay
    have hn : (us.length : Int) + (vs.length : Int) + 2 = ((us.length + vs.length + 2 : Nat) : Int) := by omega
    refine ⟨_, rfl, ax, us, rfl, haO, _, rfl, ay, vs, rfl, hbO, _, _, rfl, rfl, _, _, rfl, rfl, ?_⟩
    have lb : b.length ≤ qs.length := by
      by_cases hb0 : b = []
      · rw [hb0]
        exact Nat.zero_le _
      · have := (pmul_shape b s hb0 ns).1
        rw [← prod_is tb ts tq hb hb0 ns] at this
        have := List.length_pos_iff.mpr ns
        omega
    refine ⟨((us.length + vs.length + 2 : Nat) : Int), congrArg (fun i : Int => [V.int i]) hn, by omega, by omega, for_range (n := us.length + vs.length + 2) (fun i σ H' => ∃ (x' y' : V) (p t a' b' : List Rat) (e1' e2' f' : Nat) (o : Option V), σ = [some x', some y', o] ∧ Same H H' ∧ RwT K H' x' p ∧ RwT K H' y' t ∧ Tr p ∧ Tr t ∧ (p ≠ [] ∨ t ≠ []) ∧ Tr a' ∧ Tr b' ∧ (∀ z, ev p z = ev a' z * ev s z) ∧ (∀ z, ev t z = ev b' z * ev s z) ∧ Cd e1' e1' p ∧ Cd e2' e2' t ∧ p.length < 90 ∧ t.length < 90 ∧ okC f' a'.length b'.length e1' e2' = true ∧ b'.length + i ≤ b.length ∧ ∀ g, Gcd p t g → Gcd ps qs g)
      ⟨_, _, ps, qs, a, b, e1, e2, b.length + 1, none, rfl, Same.refl _, ⟨ax, us, rfl, hax, hA⟩, ⟨ay, vs, rfl, hay, hB⟩, tp, tq, hne, ta, tb, ha, hb, cp, cq, lp, lq, hok, Nat.le_refl _, fun _ h => h⟩ ?_ ?_⟩
    · rintro i σ H4 hi ⟨x', y', p, t, a', b', e1', e2', f', o, rfl, s4, hx', hy', tp', tt', hne', ta', tb', ha', hb', cp', ct', lp', lt', hok', hbi, hG⟩
      refine ⟨_, rfl, ?_⟩
      refine ⟨by show 0 ≤ sizeLine; exact Nat.zero_le _, fun p0 hp0 => ?_⟩
      have s5 := same_new (o := .tup []) hp0
      have e5 : SqT K (upd H4 p0 (.tup [])) p0 [] := SqT.of upd_same
      generalize upd H4 p0 (.tup []) = H5 at *
      refine rEqD_rw (hy'.mono (same_t s5)) (rwt_nil e5) ⟨_, rfl, ?_⟩
      refine tif (fun h0 => ?_) (fun h0 => ?_)
      · skip
        have hp0 : p ≠ [] := hne'.resolve_right fun z => z h0
        have h38 : e1' ≤ 3800 := by
          cases f' with
          | zero =>
            have := (Bool.and_eq_true_iff.mp hok').2
            exact of_decide_eq_true this
          | succ f' =>
            have := (Bool.and_eq_true_iff.mp hok').1
            exact of_decide_eq_true this
        refine ⟨x', rfl, x', p, 3801, rfl, hx'.mono (same_t s5), tp', hp0, cd_lt1 cp' (by omega) (by omega), by decide, by omega, fun c v H6 s6 hc hv => ?_⟩
        subst h0
        exact q v _ H6 (s4.trans (s5.trans s6)) hv (hG _ (gcd_end tp' hc))
      · have hb0 : b' ≠ [] := fun z => h0 (ev_inj tt' tr_nil fun x => by rw [hb', z, ev_nil, Rat.zero_mul])
        have lb0 := List.length_pos_iff.mpr hb0
        have lts : t.length + 1 = b'.length + s.length := by
          rw [prod_is tb' ts tt' hb' hb0 ns]
          exact (pmul_shape b' s hb0 ns).1
        obtain ⟨f2, rfl⟩ : ∃ f2, f' = f2 + 1 := by
          cases f' with
          | zero =>
            have h1 := (Bool.and_eq_true_iff.mp hok').1
            have h2 : b'.length = 0 := eq_of_beq h1
            omega
          | succ f2 => exact ⟨f2, rfl⟩
        obtain ⟨h38, hor⟩ := Bool.and_eq_true_iff.mp hok'
        obtain ⟨hcond, hall⟩ := Bool.and_eq_true_iff.mp ((Bool.or_eq_true_iff.mp hor).resolve_left fun h => by
          have h2 : b'.length = 0 := eq_of_beq h
          omega)
        have hcond := of_decide_eq_true hcond
        have hpl : p.length + 1 ≤ t.length + (a'.length + 1 - b'.length) := by
          by_cases ha0 : a' = []
          · have : p = [] := ev_inj tp' tr_nil fun x => by rw [ha', ha0, ev_nil, Rat.zero_mul]
            rw [this]
            show 0 + 1 ≤ _
            have := List.length_pos_iff.mpr h0
            omega
          · have := (pmul_shape a' s ha0 ns).1
            rw [← prod_is ta' ts tp' ha' ha0 ns] at this
            omega
        refine ⟨_, rfl, _, rfl, _, rfl, x', y', p, t, e1', e1', e2', e2', a'.length + 1 - b'.length, rfl, hx'.mono (same_t s5), hy'.mono (same_t s5), tt', h0, cp', ct', by omega, by omega, hpl, Nat.le_refl _, Nat.le_refl _, (by omega), fun tu v1 v2 qq r H6 s6 htu hv1 hv2 tqq tr hev hlt hle cdr => ?_⟩
        have hat : atI [v1, v2] 1 = some v2 := rfl
        refine ⟨tu, _, 1, _, rfl, rfl, htu, hat, ?_⟩
        obtain ⟨c', tc', _, hc'⟩ := trim_ex (ladd a' (smul (-1) (pmul qq b')))
        have hr : ∀ z, ev r z = ev c' z * ev s z := fun z => by
          rw [hc', ev_ladd, ev_smul, ev_pmul]
          have := hev z
          rw [ha', hb'] at this
          grind
        have lc : c'.length < b'.length := by
          by_cases hc0 : c' = []
          · rw [hc0]
            exact lb0
          · have := (pmul_shape c' s hc0 ns).1
            rw [← prod_is tc' ts tr hr hc0 ns] at this
            omega
        have hle3 : (a'.length + 1 - b'.length) * e2' ≤ (a'.length + 1 - b'.length) * (e2' + 1) := Nat.mul_le_mul_left _ (Nat.le_succ _)
        refine ⟨_, _, rfl, y', v2, t, r, b', c', e2', e1' + (a'.length + 1 - b'.length) * (e2' + 1), f2, _, rfl, s4.trans (s5.trans s6), hy'.mono (same_t (s5.trans s6)), hv2, tt', tr, .inl h0, tb', tc', hb', hr, ct', cd_mono cdr (by omega) (Nat.le_refl _), lt', by omega, List.all_eq_true.mp hall _ (List.mem_range.mpr lc), by omega, fun g hg => hG g (gcd_step hev hg)⟩
    · rintro σ H4 ⟨x', y', p, t, a', b', e1', e2', f', o, rfl, s4, hx', hy', tp', tt', hne', ta', tb', ha', hb', cp', ct', lp', lt', hok', hbi, hG⟩
      omega
end
end Vx
namespace Vx
open PySem PySem.Spec PyProof.Rows L2
theorem mult_len' {a g r : List Rat} (ta : Tr a) (tg : Tr g) (ng : g ≠ []) (tr : Tr r) (nr : r ≠ []) (h : ∀ z, ev r z = ev a z * ev g z) : r.length + 1 = a.length + g.length := by
  obtain ⟨t, tt, nt, he, hl, _⟩ := mult_len tg ng tr nr h
  have : t = a := ev_inj tt ta he
  rw [← this]
  exact hl
/-- what goes into both goes into the greatest -/
theorem Gcd.of_both {p q g s a b : List Rat} (G : Gcd p q g) (hp : ∀ z, ev p z = ev a z * ev s z) (hq : ∀ z, ev q z = ev b z * ev s z) : ∃ x : List Rat, ∀ z, ev g z = ev x z * ev s z := by
  obtain ⟨e, f, h⟩ := G.b
  refine ⟨ladd (pmul e a) (pmul f b), fun z => ?_⟩
  rw [h, hp, hq, ev_ladd, ev_pmul, ev_pmul]
  grind
theorem div_len {x g s : List Rat} (tg : Tr g) (ng : g ≠ []) (ts : Tr s) (ns : s ≠ []) (h : ∀ z, ev g z = ev x z * ev s z) : s.length ≤ g.length := by
  obtain ⟨t, tt, nt, he, hl, _⟩ := mult_len ts ns tg ng h
  have := List.length_pos_iff.mpr nt
  omega
theorem rest_none {n q b r : List Rat} (h : ∀ x, ev n x = ev q x * ev b x + ev r x) (tb : Tr b) (nb : b ≠ []) (tr : Tr r) (lr : r.length < b.length) (hd : ∃ x : List Rat, ∀ z, ev n z = ev x z * ev b z) : r = [] :=
  (goes_iff (S := 1) (by decide) (fun x => by rw [Rat.one_mul]; exact h x) tb nb tr lr).mpr hd
theorem Gcd.swap {p q g : List Rat} (G : Gcd p q g) : Gcd q p g := by
  obtain ⟨e, f, h⟩ := G.b
  exact ⟨G.tr, G.ld, G.r, G.l, f, e, fun z => by rw [h]; grind⟩
theorem gcd_cop {p q g o t : List Rat} (G : Gcd p q g) (ho : ∀ z, ev p z = ev o z * ev g z) (ht : ∀ z, ev q z = ev t z * ev g z) : Gcd o t [1] := by
  obtain ⟨a, b, h⟩ := cop_of G ho ht
  have e1 : ∀ z, ev [(1 : Rat)] z = 1 := fun z => by
    show 1 + z * 0 = (1 : Rat)
    grind
  refine ⟨fun _ => by show (1 : Rat) ≠ 0; decide, ⟨0, rfl, fun j hj => absurd hj (Nat.not_lt_zero _)⟩, ⟨o, fun z => by rw [e1, Rat.mul_one]⟩, ⟨t, fun z => by rw [e1, Rat.mul_one]⟩, a, b, fun z => by rw [e1, h]⟩
theorem one_prim {f : List Int} {c : Rat} (pf : f ≠ [] → ∀ g : Nat, (∀ n ∈ f, (g : Int) ∣ n) → g = 1) (h : [(1 : Rat)] = smul c (toR f)) : ∀ n ∈ f, Bz 1 n := by
  have hl := congrArg List.length h
  rw [smul_len, toR_len] at hl
  match f, hl with
  | [x], _ =>
    have := pf (List.cons_ne_nil _ _) x.natAbs (fun n hn => by rw [List.mem_singleton.mp hn]; exact Int.natAbs_dvd.mpr (Int.dvd_refl _))
    intro n hn
    rw [List.mem_singleton.mp hn]
    show x.natAbs < 2 ^ 1
    omega
theorem gcd_times {p q g m P Q R : List Rat} {c : Rat} (G : Gcd p q g) (hP : ∀ z, ev P z = ev p z * ev m z) (hQ : ∀ z, ev Q z = ev m z * ev q z) (hR : ∀ z, ev R z = ev g z * ev m z) (tR : Tr R) (hc0 : c ≠ 0) (ld : Lead1 (smul (1 / c) R)) : Gcd P Q (smul (1 / c) R) := by
  obtain ⟨x, hx⟩ := G.l
  obtain ⟨y, hy⟩ := G.r
  obtain ⟨e, f, h⟩ := G.b
  refine gcd_of tR (by grind) rfl ld ⟨x, fun z => ?_⟩ ⟨y, fun z => ?_⟩ ⟨e, f, fun z => ?_⟩
  · rw [hP, hx, hR]
    grind
  · rw [hQ, hy, hR]
    grind
  · rw [hR, h, hP, hQ]
    grind
theorem gcd_self {p : List Rat} {c : Rat} (tp : Tr p) (hc0 : c ≠ 0) (ld : Lead1 (smul (1 / c) p)) : Gcd p p (smul (1 / c) p) :=
  gcd_of tp (by grind) rfl ld ⟨[1], fun z => by show _ = (1 + z * 0) * _; grind⟩ ⟨[1], fun z => by show _ = (1 + z * 0) * _; grind⟩ ⟨[1], [], fun z => by show _ = (1 + z * 0) * _ + 0 * _; grind⟩
end Vx
namespace Vx
open PySem PySem.Spec PyProof.Rows L2
theorem tr_len_le {r L : List Rat} (tr : Tr r) (h : ∀ z, ev r z = ev L z) : r.length ≤ L.length := by
  obtain ⟨t, tt, tl, te⟩ := trim_ex L
  have : t = r := ev_inj tt tr fun z => by rw [te, h]
  rw [← this]
  exact tl
/-- the lengths of the cofactors -/
theorem cof_len {ps qs g E F : List Rat} {A B : Nat} (C : Cof ps qs g E F) (tq : Tr qs) (hA : ps.length + 1 ≤ g.length + A) (hB : qs.length + 1 ≤ g.length + B) (hA1 : 1 ≤ A) (hB1 : 1 ≤ B) : E.length ≤ B ∧ F.length ≤ A := by
  by_cases nq : qs = []
  · obtain ⟨h1, h2⟩ := C.n nq
    rw [h1, h2]
    exact ⟨hB1, Nat.zero_le _⟩
  · obtain ⟨y, hy⟩ := C.G.r
    obtain ⟨t, tt, nt, te, tl, _⟩ := mult_len C.G.tr C.G.ld.ne tq nq hy
    have h1 := C.c nq t tt (fun z => by rw [te, hy])
    have h2 := List.length_pos_iff.mpr nt
    refine ⟨by omega, ?_⟩
    by_cases nF : F = []
    · rw [nF]
      exact Nat.zero_le _
    · have tP := tr_pmul C.tF tq nF nq
      have nP := prod_ne C.tF tq nF nq tP (fun z => ev_pmul _ _ z)
      have l1 := mult_len' C.tF tq nq tP nP (fun z => ev_pmul _ _ z)
      have l2 := tr_len_le (L := ladd g (smul (-1) (pmul E ps))) tP fun z => by
        have := C.eq z
        rw [ev_pmul, ev_ladd, ev_smul, ev_pmul]
        grind
      have l3 := pmul_len_le E ps
      rw [ladd_length, smul_len] at l2
      omega
end Vx
namespace Vx
open PySem PySem.Spec PyProof.Rows L2
theorem cd_smul {a b e : Nat} {c : Rat} {l : List Rat} (h : Cd a b l) (hc : Qz e c) : Cd (a + e) (b + e) (smul c l) := by
  obtain ⟨D, h0, h1, h2⟩ := h
  have hd := c.den_pos
  have hde : c.den ≤ 2 ^ e := Nat.le_of_lt hc.2
  have hne : c.num.natAbs ≤ 2 ^ e := Nat.le_of_lt hc.1
  have ek : c * (c.den : Rat) = (c.num : Rat) := by
    have e : c = (c.num : Rat) / ((c.den : Int) : Rat) := by
      rw [← Rat.divInt_eq_div]
      exact (fr_self c).symm
    have h3 : ((c.den : Int) : Rat) ≠ 0 := by exact_mod_cast (show (c.den : Int) ≠ 0 by omega)
    have h4 : ((c.den : Nat) : Rat) = ((c.den : Int) : Rat) := rfl
    rw [h4]
    generalize ((c.den : Int) : Rat) = dd at *
    rw [e]
    grind
  refine ⟨D * c.den, Nat.mul_pos h0 hd, by rw [Nat.pow_add]; exact Nat.mul_le_mul h1 hde, fun x hx => ?_⟩
  obtain ⟨y, hy, rfl⟩ := List.mem_map.mp hx
  obtain ⟨n, hn, hb⟩ := h2 y hy
  refine ⟨n * c.num, ?_, by rw [Int.natAbs_mul, Nat.pow_add]; exact Nat.mul_le_mul hb hne⟩
  have e1 : ((D * c.den : Nat) : Rat) = (D : Rat) * (c.den : Rat) := Rat.natCast_mul _ _
  have e2 : ((n * c.num : Int) : Rat) = (n : Rat) * (c.num : Rat) := Rat.intCast_mul _ _
  rw [e1, e2, ← hn, ← ek]
  grind
/-- a pair of rows that is an answer -/
structure IsAns (E F : List Rat) : Prop where
  tp : Tr E
  tq : Tr F
  h0 : at0 F 0 = 1
  g : Gcd E F [1]
theorem ne_of_at0 {l : List Rat} {i : Nat} (h : at0 l i ≠ 0) : l ≠ [] := fun z => by
  rw [z] at h
  exact h rfl
theorem IsAns.ne {E F : List Rat} (h : IsAns E F) : F ≠ [] := ne_of_at0 (i := 0) (by rw [h.h0]; decide)
theorem ev1 (z : Rat) : ev [(1 : Rat)] z = 1 := by
  show 1 + z * 0 = (1 : Rat)
  grind
theorem at0_mul {a b r : List Rat} (h : ∀ z, ev r z = ev a z * ev b z) : at0 r 0 = at0 a 0 * at0 b 0 := by
  have e : ∀ l : List Rat, ev l 0 = at0 l 0 := fun l => by
    cases l with
    | nil => rfl
    | cons c l =>
      show c + 0 * ev l 0 = at0 (c :: l) 0
      have : at0 (c :: l) 0 = c := rfl
      rw [this]
      grind
  rw [← e, ← e, ← e, h]
/-- one answer for each quotient -/
theorem IsAns.uniq {E F E' F' : List Rat} (h : IsAns E F) (h' : IsAns E' F') (hx : ∀ z, ev E z * ev F' z = ev E' z * ev F z) : E' = E ∧ F' = F := by
  obtain ⟨a, b, hab⟩ := h.g.b
  obtain ⟨a', b', hab'⟩ := h'.g.b
  have d1 : ∀ z, ev F' z = ev (ladd (pmul a E') (pmul b F')) z * ev F z := fun z => by
    have h1 := hab z
    rw [ev1] at h1
    rw [ev_ladd, ev_pmul, ev_pmul]
    have h2 := hx z
    grind
  have d2 : ∀ z, ev F z = ev (ladd (pmul a' E) (pmul b' F)) z * ev F' z := fun z => by
    have h1 := hab' z
    rw [ev1] at h1
    rw [ev_ladd, ev_pmul, ev_pmul]
    have h2 := hx z
    grind
  have l1 := div_len h'.tq h'.ne h.tq h.ne d1
  have l2 := div_len h.tq h.ne h'.tq h'.ne d2
  obtain ⟨t, tt, nt, te, tl, _⟩ := mult_len h.tq h.ne h'.tq h'.ne d1
  have e1 : F' = F := by
    match t, tl, te with
    | [c], _, te =>
      have h3 := at0_mul (a := [c]) (b := F) (r := F') (fun z => by rw [te, d1])
      rw [h.h0, h'.h0] at h3
      have hc : c = 1 := by
        have : at0 [c] 0 = c := rfl
        rw [this] at h3
        grind
      refine ev_inj h'.tq h.tq fun z => ?_
      rw [d1, ← te, hc, ev1]
      grind
    | [], tl, _ => exact absurd rfl nt
    | _ :: _ :: _, tl, _ =>
      rw [List.length_cons, List.length_cons] at tl
      omega
  subst e1
  refine ⟨?_, rfl⟩
  have := ev_cancel (x := E') (y := E) h.tq h.ne fun z => by
    have := hx z
    grind
  exact ev_inj h'.tp h.tp this
theorem tr_smul' {c : Rat} {f : List Rat} (hc : c ≠ 0) (tf : Tr f) : Tr (smul c f) := fun hn => by
  have hl : f ≠ [] := fun z => hn (by rw [z]; rfl)
  rw [List.getLast_eq_getElem]
  have e := at0_get (l := smul c f) (i := (smul c f).length - 1) (by have := List.length_pos_iff.mpr hn; omega)
  rw [List.getElem?_eq_getElem (by have := List.length_pos_iff.mpr hn; omega)] at e
  rw [Option.some.inj e, at0_smul, smul_len]
  have h1 := tf hl
  rw [List.getLast_eq_getElem] at h1
  have e2 := at0_get (l := f) (i := f.length - 1) (by have := List.length_pos_iff.mpr hl; omega)
  rw [List.getElem?_eq_getElem (by have := List.length_pos_iff.mpr hl; omega)] at e2
  rw [← Option.some.inj e2]
  intro z
  rcases Rat.mul_eq_zero.mp z with z | z
  · exact hc z
  · exact h1 z
theorem gcd_scale' {o t : List Rat} {k : Rat} (k0 : k ≠ 0) (h : Gcd o t [1]) : Gcd (smul k o) (smul k t) [1] := by
  obtain ⟨a, b, hab⟩ := h.b
  refine ⟨h.tr, h.ld, ⟨smul k o, fun z => by rw [ev1, Rat.mul_one]⟩, ⟨smul k t, fun z => by rw [ev1, Rat.mul_one]⟩, smul (1 / k) a, smul (1 / k) b, fun z => ?_⟩
  rw [hab, ev_smul, ev_smul, ev_smul, ev_smul]
  grind
/-- the answer of a quotient -/
theorem ans_of {ps qs g o t : List Rat} {u : Rat} (G : Gcd ps qs g) (to : Tr o) (tt : Tr t) (ho : ∀ z, ev ps z = ev o z * ev g z) (ht : ∀ z, ev qs z = ev t z * ev g z) (hu : at0 qs 0 = u) (u0 : u ≠ 0) :
    IsAns (smul (1 / u) o) (smul (1 / u) t) ∧ ∀ z, ev ps z * ev (smul (1 / u) t) z = ev qs z * ev (smul (1 / u) o) z := by
  have iu : (1 : Rat) / u ≠ 0 := by grind
  have hg := at0_mul ht
  rw [hu] at hg
  have g1 : at0 g 0 = 1 := by
    obtain ⟨i, h1, h2⟩ := G.ld
    rcases Nat.eq_zero_or_pos i with z | z
    · rw [z] at h1
      exact h1
    · have := h2 0 z
      rw [this, Rat.mul_zero] at hg
      exact absurd hg u0
  rw [g1, Rat.mul_one] at hg
  refine ⟨⟨tr_smul' iu to, tr_smul' iu tt, ?_, ?_⟩, fun z => ?_⟩
  · rw [at0_smul, ← hg]
    grind
  · have h1 := gcd_cop G ho ht
    exact gcd_scale' iu h1
  · rw [ev_smul, ev_smul, ho, ht]
    grind
end Vx
namespace Vx
open PySem PySem.Spec PyProof.Rows L2
open AutoSeq1 (wpAny_loadPart')
theorem en_newT (l : Addr) (items : Array Value) (n : Nat) (dct : Option Addr) (sl : Array (Option Value)) :
    Meets (Builtin.«enumerate.__new__» ⟨[.type "enumerate", .ref l], []⟩) (fun _ R s => s.heap.get? l = some { cls := .type "tuple", dict := dct, data := .seq items n, slots := sl } ∧
      R (.ok (.ret (.ref (s.heap.push { cls := .type "tuple_iterator", data := .fields #[.ref l, .int 0 0] }).objs.size)))
        { s with heap := (s.heap.push { cls := .type "tuple_iterator", data := .fields #[.ref l, .int 0 0] }).push { cls := .type "enumerate", data := .fields #[.none, .bool false, .ref s.heap.objs.size, rawInt 0, .none, .none] } }) :=
  .of_wp fun prog w A R s h => by
    obtain ⟨hp, g, d, tk, os⟩ := s
    obtain ⟨hl, h⟩ := h
    have hsub := sub_enumerate
    have hL : Heap.IsTuple (Shared.heap ⟨hp, g, d, tk, os⟩) l items := ⟨_, hl, rfl, n, rfl⟩
    wp_walk using wpAny_loadPart' hl
    refine wpAny_stack_any fun st => wpAny_pure ?_
    split
    · rename_i c _ _ _ _ _
      cases (c == Value.type "enumerate") <;> (wp_walk using wpAny_loadPart' hl, wpAny_pyIter_tuple hL) <;> exact ⟨_, rfl, h⟩
    · wp_walk using wpAny_loadPart' hl, wpAny_pyIter_tuple hL
      exact ⟨_, rfl, h⟩
section
variable {prog : Program} {w : World} {A : Around} {E : Value → Shared → Prop} {s : Shared}
theorem call_enT {l : Addr} {items : Array Value} {Q : Value → Shared → Prop} (hL : s.heap.IsTuple l items)
    (h : ∀ h', IsEnum h' (s.heap.objs.size + 1) s.heap.objs.size 0 .none → h'.IsTupleIter s.heap.objs.size l 0 →
      (∀ b o, s.heap.get? b = some o → h'.get? b = some o) → Q (.ref (s.heap.objs.size + 1)) { s with heap := h' }) :
    wpAny (model prog w) A (call (.type "enumerate") [.ref l]) Q E s := by
  obtain ⟨⟨c, dct, dt, sl⟩, hl, hc, n, hd⟩ := hL
  obtain rfl : c = .type "tuple" := hc
  obtain rfl : dt = .seq items n := hd
  refine callType_new F.called_enumerate (by decide) (F.typeCall_enumerate_1 _) (F.newCall_enumerate_1 _) (fun obj => F.args_object_init_2 obj _) F.entry_enumerate_new (en_newT l items n dct sl) ⟨hl, ?_⟩
  have hz : (s.heap.push { cls := .type "tuple_iterator", data := .fields #[.ref l, .int 0 0] }).objs.size = s.heap.objs.size + 1 := Heap.size_push ..
  show _ ∧ _
  rw [hz]
  have he : IsEnum ((s.heap.push { cls := .type "tuple_iterator", data := .fields #[.ref l, .int 0 0] }).push { cls := .type "enumerate", data := .fields #[.none, .bool false, .ref s.heap.objs.size, rawInt 0, .none, .none] }) (s.heap.objs.size + 1) s.heap.objs.size 0 .none := by
    have q := Heap.get?_push_size (s.heap.push { cls := .type "tuple_iterator", data := .fields #[.ref l, .int 0 0] }) (o := { cls := .type "enumerate", data := .fields #[.none, .bool false, .ref s.heap.objs.size, rawInt 0, .none, .none] }) rfl
    rwa [hz] at q
  exact ⟨⟨_, he, rfl⟩, h _ he ⟨_, Heap.get?_push_of_some _ (Heap.get?_push_size _ rfl), rfl, rfl⟩ fun b o x => Heap.get?_push_of_some _ (Heap.get?_push_of_some _ x)⟩
end
/-- the tuple at a as it stands at each turn, each item in a new pair -/
def IteT (K : PySem.W.Frag) (a : Addr) : It :=
  ⟨fun i H => ∃ (xs : List V) (x : V), SqT K H a xs ∧ xs[i]? = some x, fun i H v H' => ∃ T x, v = .ref T ∧ H T = none ∧ H' = upd H T (.tup [.int (i : Nat), x]) ∧ ∀ xs, SqT K H a xs → xs[i]? = some x, fun i H => ∃ xs : List V, SqT K H a xs ∧ xs.length ≤ i⟩
theorem turn_enT {P : Program} {w : World} {K : PySem.W.Frag} {elts : List Expr} {kk : Nat} {tpos : Pos} (a e it : Addr) :
    Turn P w K (.Tuple elts kk tpos) (IteT K a) [e, it] e (fun i h => (∃ old, IsEnum h e it ((i : Nat) : Int) old) ∧ h.IsTupleIter it a i ∧ e ≠ it ∧ a ≠ it ∧ e ≠ a) where
  mem := by simp
  obj := fun i h st b hb => by
    obtain ⟨⟨old, he⟩, ⟨o, ho, _, hd⟩, _⟩ := st
    rcases (by simpa using hb : b = e ∨ b = it) with rfl | rfl
    · exact ⟨_, he, fun v q => nomatch q⟩
    · exact ⟨o, ho, fun v q => by rw [hd] at q; cases q⟩
  keep := fun i h h' st k => by
    obtain ⟨⟨old, he⟩, hi, hne⟩ := st
    exact ⟨⟨old, k e (by simp) _ he⟩, hi.at fun o q => k it (by simp) o q, hne⟩
  item := by
    intro X hP hw hK hc i pins s σ H E I hf st hg
    subst hP hw hK
    obtain ⟨⟨old, he⟩, hit, hne, hai, hea⟩ := st
    obtain ⟨xs, x, hq, hx⟩ := hg
    obtain ⟨its, rv, p, _⟩ := I.tuple hq
    obtain ⟨u, hu, ru⟩ := rv.get hx
    have hel : e < s.heap.objs.size := Heap.lt_size he
    have hil : it < s.heap.objs.size := by
      obtain ⟨_, q, _⟩ := hit
      exact Heap.lt_size q
    have hi : i < its.toArray.size := by
      rw [List.size_toArray]
      exact (List.getElem?_eq_some_iff.mp hu).1
    have D := Draws.tuple (prog := X.prog) (w := X.w) (A := X.A.in1) (I.ok.hd hc) it a hai its.toArray
    refine wpAny_pyNext_enum_itemD D he ⟨hit, p⟩ hi hne (fun z => (show e = it ∨ e = a by simpa using z).elim hne hea) fun y h' tk hy ho hst hT hsz hk => ?_
    have ey : y = u := by
      have hu' : its.toArray[i]? = some u := by simpa using hu
      rw [hu'] at hy
      exact (Option.some.inj hy).symm
    subst ey
    refine ⟨_, rfl, wpAny_letOwnedTupleGo_enum (s := { s with heap := h', toks := tk + 1 }) ho fun h'' he' sb => ?_⟩
    have hT2 : h''.get? s.heap.objs.size = some { cls := .type "tuple", data := .seq #[.int i tk, y] } := (sb.2 _ (Nat.ne_of_gt hel)).trans hT
    have new : ObjOk X.prog X.w (upd H s.heap.objs.size (.tup [.int (i : Nat), x])) h'' s.heap.objs.size (.tup [.int (i : Nat), x]) :=
      ⟨by show 2 ≤ sizeLine; decide, [.int i tk, y], .cons ⟨_, rfl⟩ (.cons ru .nil), ⟨_, hT2, rfl, _, rfl⟩⟩
    have I1 : Inv X pins σ (upd H s.heap.objs.size (.tup [.int (i : Nat), x])) { s with heap := h'', toks := tk + 1 } :=
      I.turnedNew (ch := [e, it]) (fun b ob hb q => (sb.2 b (fun z => hb (by simp [z]))).trans (hk b ob (fun z => hb (by simp [z])) (fun z => hb (by simp [z])) q)) hf (Nat.le_refl _) new
    refine ⟨.ref s.heap.objs.size, _, I1, rfl, ⟨_, x, rfl, I.hok.fresh (Nat.le_refl _), rfl, fun ys hy => by rw [I.tuple_inj hy hq]; exact hx⟩, ⟨⟨y, ?_⟩, hst.1.at fun o q => (sb.2 it (Ne.symm hne)).trans q, hne, hai, hea⟩, fun b hb => ?_⟩
    · have e1 : ((i + 1 : Nat) : Int) = (i : Int) + 1 := by omega
      rw [e1]
      exact he'
    · have hb' : b < s.heap.objs.size := by
        rcases (by simpa using hb : b = e ∨ b = it) with rfl | rfl
        · exact hel
        · exact hil
      rw [upd_ne (Nat.ne_of_lt hb')]
      exact (hf b hb).1
  done := by
    intro X hP hw hK hc i pins s σ H E I hf st hg
    subst hP hw hK
    obtain ⟨⟨old, he⟩, hit, hne, hai, hea⟩ := st
    obtain ⟨xs, hq, hx⟩ := hg
    obtain ⟨its, rv, p, _⟩ := I.tuple hq
    obtain ⟨f0, f1, f2, f3, f4, f5⟩ := hf it (by simp)
    have hl := rv.length
    have hT : s.TypeIs (.ref e) "enumerate" := ⟨_, he, rfl⟩
    unfold pyNext
    refine wpAny_bind (wpAny_attempt (wpAny_callSpecial?_slot (name := Str.ofString "__next__") hT PySem.F.slot_enumerate_next
      (wpAny_call_entry PySem.F.slot_enumerate_next hT PySem.F.entry_enumerate_next ?_ (PySem.F.args_enumerate_next_1 _))))
    show wpAny _ _ (field (.ref e) 2 >>= _) _ _ _
    refine wpAny_bind (wpAny_field he rfl (x := .ref it) rfl ?_)
    refine wpAny_bind (wpAny_nextOf_tuple_end (I.ok.hd hc) hit p (by simp; omega) fun h' x he' hx' => ?_)
    obtain ⟨o, ho, hcl⟩ := hx'
    refine wpAny_bind (wpAny_isInstance (T := "StopIteration") (b := true) ⟨o, ho, hcl⟩ isSubtype_stop ?_)
    exact wpAny_pure ⟨rfl, I.turned (t' := s.toks) (fun b o hb q => he' b o hb q) f0 f1 f3 f4 f5⟩
  self := fun A i s Q E st h => let ⟨⟨_, he⟩, _⟩ := st; wpAny_pyIter_enum he h
def iEnumT (K : PySem.W.Frag) (ta : TA) : TI := fun σ H R => ta σ H fun vs H1 => ∃ a xs, vs = [.ref a] ∧ SqT K H1 a xs ∧ R (IteT K a) H1
theorem pi_enumT {X : Cx} {e : Expr} {ta : TA} {p pos tpos : Pos} {elts : List Expr} {kk : Nat} (hg : Gl X "enumerate") (hm : X.mg "enumerate" = none) (ha : PA X [e] ta) (hs : starEach [e] X.env = [(false, eval e X.env)] := by rfl) :
    PI X (.Tuple elts kk tpos) (.Call (.Name "enumerate" p) [e] [] pos) (iEnumT X.K ta) := by
  refine ⟨fun pins s σ H R I h => ?_⟩
  refine Call_ (ld_blt I hg hm boot_enumerate (PyProof.Rows.callWith_type1 (thn (ha.run pos pins s σ H _ I h) fun us s1 ⟨vs, H1, I1, r1, q1⟩ => ?_) hs rfl))
  obtain ⟨a, xs, ex, hq, q⟩ := q1
  subst ex
  obtain ⟨u, rfl, ru⟩ := vals1 r1
  cases ru
  obtain ⟨its, rv, p', _⟩ := I1.tuple hq
  have hlt : a < s1.heap.objs.size := by
    obtain ⟨_, z, _⟩ := id p'
    exact Heap.lt_size z
  refine call_enT p' fun h' he hit hk => wpAny_pyIter_enum he ?_
  have I2 : Inv X pins σ H1 { s1 with heap := h' } := I1.kept (t' := s1.toks) hk
  refine ⟨s1.heap.objs.size + 1, [s1.heap.objs.size + 1, s1.heap.objs.size], _, _, H1, rfl, I2, turn_enT a (s1.heap.objs.size + 1) s1.heap.objs.size, ⟨⟨.none, he⟩, hit, Nat.succ_ne_self _, Nat.ne_of_lt hlt, Nat.ne_of_gt (Nat.lt_succ_of_lt hlt)⟩, fun b hb => ?_, q⟩
  have hle : s1.heap.objs.size ≤ b := by
    rcases (by simpa using hb : b = s1.heap.objs.size + 1 ∨ b = s1.heap.objs.size) with rfl | rfl
    · exact Nat.le_add_right _ _
    · exact Nat.le_refl _
  exact I1.fpOk hle (I1.hok.fresh hle)
theorem walk_enT {K : PySem.W.Frag} {a : Addr} {xs : List V} : Walk (IteT K a) xs.length (fun H => SqT K H a xs) (YPair (fun i => some (.int (i : Nat))) (fun i => xs[i]?)) := by
  refine ⟨fun i _ hi q => ⟨xs, xs[i], q, by simp [hi]⟩, fun _ q => ⟨xs, q, Nat.le_refl _⟩, fun i H v H' _ q y => ?_⟩
  obtain ⟨T, x, h1, h2, h3, h4⟩ := y
  exact ⟨T, .int (i : Nat), x, h1, h2, h3, rfl, h4 xs q⟩
end Vx
namespace Vx
open PySem PySem.Spec PyProof.Rows L2
local macro_rules | `(tactic| walk_at "cl") => `(tactic| first | assumption | exact Bz.mono (Bz.mul (by assumption) (by assumption)) (by decide) | rfl | omega | exact sz_of 0 rfl (by decide) | exact sz_of 1 rfl (by decide) | exact sz_of 2 rfl (by decide) | exact sz_of 3 rfl (by decide) | exact cmuly (by assumption) (by assumption) (by decide) | exact Bz.mono (Bz.mul (by assumption) (by assumption)) (by decide) | decide)
local macro_rules | `(tactic| walk_at "ex") => `(tactic| ((show Exists _); first | apply @Exists.intro V | apply @Exists.intro Int | apply @Exists.intro Addr | apply @Exists.intro (List V) | apply @Exists.intro Nat | apply @Exists.intro Str | apply @Exists.intro Bool | apply @Exists.intro (Option V) | apply @Exists.intro String | apply @Exists.intro Rat | apply @Exists.intro (List Rat)))
local macro_rules | `(tactic| walk_at "rd") => `(tactic| ((repeat (first | (walk_at "ex") | (apply And.intro; (focus (walk_at "cl"))))); (try dsimp only [])))
local macro_rules | `(tactic| walk_at "r0") => `(tactic| (repeat (first | (walk_at "ex") | (apply And.intro; (focus (walk_at "cl"))))))
/-- an answer: a pair of rows -/
def AnT (K : PySem.W.Frag) (H : Hp) (v : V) (ps qs : List Rat) : Prop := ∃ (t : Addr) (x y : V), v = .ref t ∧ SqT K H t [x, y] ∧ RwT K H x ps ∧ RwT K H y qs
theorem AnT.mono {K : PySem.W.Frag} {H H' : Hp} {v : V} {ps qs : List Rat} (s : SameT H H') (h : AnT K H v ps qs) : AnT K H' v ps qs := by
  obtain ⟨t, x, y, e, ht, hx, hy⟩ := h
  exact ⟨t, x, y, e, samet_seqT s ht, hx.mono s, hy.mono s⟩
theorem AnT.rp {K : PySem.W.Frag} {H : Hp} {v : V} {ps qs : List Rat} (h : AnT K H v ps qs) : Rp K H v (.tuple [dRw ps, dRw qs]) := by
  obtain ⟨t, x, y, rfl, ht, hx, hy⟩ := h
  exact Rp.tup ht (RpA.cons (rp_rw hx) (RpA.cons (rp_rw hy) RpA.nil))
/-- the sizes under which shared_part is walked -/
def ShN (d e l N M γ : Nat) : Prop := d < 8990 ∧ e ≤ 50000 ∧ N ≤ 2 ^ l ∧ M < 200 ∧ (2 * bChain l (e + 1) N + 5) * (N + 2) + e ≤ 4000000 ∧ bChain l (e + 1) N ≤ 400000 ∧ N < 400 ∧ γ ≤ 3900
section
variable {P : Program} {w : World} {K : PySem.W.Frag} {mg : Str → Option Value} {base : Heap}
theorem rEqD_frC {H : Hp} {x y : V} {p q : Rat} {Q : VK} {σ : L2.St} (hx : FrT K H x p) (hy : FrT K H y q) (h : Q (.bl (decide (p = q))) H) : tC y σ H fun y H2 => rEqD K x y H2 Q := rEqD_fr hx hy h
theorem fra_head {us : List V} {qs : List Rat} {H : Hp} (h : FrA K H us qs) (n : qs ≠ []) : ∃ u0, atI us 0 = some u0 ∧ FrT K H u0 (at0 qs 0) := by
  cases h with
  | nil => exact absurd rfl n
  | cons a t => exact ⟨_, atI_nat (j := 0) rfl, a⟩
theorem share_call {x y : V} {ps qs : List Rat} {d e l N M γ : Nat} {H : Hp} {Q : VK} {E : XK} (hx : RwT K H x ps) (hy : RwT K H y qs) (tp : Tr ps) (tq : Tr qs) (hne : ps ≠ [] ∨ qs ≠ []) (cp : Cd d e ps) (cq : Cd d e qs)
    (nums : ShN d e l N M γ) (hN : ps.length + qs.length ≤ N) (hM1 : ps.length ≤ M) (hM2 : qs.length ≤ M)
    (hsm : ∀ (f : List Int) (g : List Rat) (c : Rat), (f ≠ [] → ∀ g : Nat, (∀ n ∈ f, (g : Int) ∣ n) → g = 1) → Gcd ps qs g → c ≠ 0 → g = smul c (toR f) → (∀ n ∈ f, Bz (bChain l (e + 1) N) n) → ∀ n ∈ f, Bz γ n)
    (q : ∀ v g H', Same H H' → RwT K H' v g → Gcd ps qs g → Cd γ γ g → g.length ≤ M → Q v H') : spShare K [x, y] H Q E := by
  obtain ⟨n1, n2, n3, n4, n5, n6, n7, n8⟩ := nums
  exact ⟨x, y, ps, qs, d, e, l, N, M, γ, rfl, hx, hy, tp, tq, hne, cp, cq, n1, n2, hN, n3, hM1, hM2, n4, n5, n6, n7, n8, hsm, fun v g H2 s2 => q v g H2 s2⟩
/-- is_led -/
def spIsLed (K : PySem.W.Frag) : Sp := fun vs H Q _ => ∃ (x : V) (qs : List Rat), vs = [x] ∧ RwT K H x qs ∧ at0 qs 0 = 1 ∧ ∀ H', Same H H' → Q (.bl true) H'
theorem sc_is_led : FnScope ["row"] ["row"] (defScope s_is_led) := ⟨rfl, rfl, rfl, by decide +kernel, rfl, by decide +kernel, by decide +kernel⟩
theorem d_is_led {aONE : Addr} (W : FunIn K mg "is_led" s_is_led) (hONE : OneC K mg aONE) : Df P w K mg base "is_led" 33 ["row"] (spIsLed K) := by
  obtain ⟨f, fd, F, hm⟩ := W
  refine ⟨f, fd, F.ok sc_is_led (fun vs H Q E h => ?_) (fun cdv A outer s H vs Q E hr h => ?_), hm, F.kp, F.binds fun _ _ _ _ _ _ us hl => match us, hl with | [_], _ => rfl⟩
  · obtain ⟨x, qs, rfl, _⟩ := h
    rfl
  · obtain ⟨x, qs, rfl, hx, h0, q⟩ := h
    have hne : qs ≠ [] := ne_of_at0 (i := 0) (by rw [h0]; decide)
    obtain ⟨a, us, rfl, ha, hA⟩ := hx
    refine ⟨_, (pss_one (ps_ret (pe_and (pe_cmpR (op_neD (hu64 hr)) (pv 0) (pe_tup pa_nil) (nomark _)) (pe_one (pe_cmpR (op_eqD (hu64 hr)) (pe_ix ix_tup (pv 0) pe_int (fun _ _ => rfl)) (pe_glob (v := .ref aONE) rfl hONE.g rfl) (nomark _)))))), ?_⟩
    refine ⟨V.ref a, rfl, Nat.zero_le _, fun p hp => ?_⟩
    have s1 := same_new (o := .tup []) hp
    have e1 : upd H p (.tup []) p = some (.tup []) := upd_same
    generalize upd H p (.tup []) = H1 at s1 e1
    refine rNeD_rw ⟨a, us, rfl, same_seqT s1 ha, fra_mono (same_t s1) hA⟩ (rwt_nil (SqT.of e1)) ?_
    refine ⟨_, rfl, tifn (fun _ => ?_) (fun h => absurd h hne)⟩
    obtain ⟨u0, hat, hu0⟩ := fra_head hA hne
    refine ⟨V.ref a, rfl, a, us, 0, u0, rfl, rfl, same_seqT s1 ha, hat, ?_⟩
    refine rEqD_fr (hu0.mono (same_t s1)) (hONE.fr H1) ?_
    rw [h0, decide_eq_true rfl]
    exact q H1 s1
/-- is_led_row -/
def spLedRow (K : PySem.W.Frag) (tb : Addr) : Sp := fun vs H Q _ => ∃ (x : V) (qs : List Rat), vs = [x] ∧ RwT K H x qs ∧ Tr qs ∧ at0 qs 0 = 1 ∧ H tb = some (tabX tb) ∧ ∀ H', Same H H' → Q (.bl true) H'
theorem sc_is_led_row : FnScope ["value"] ["value"] (defScope s_is_led_row) := ⟨rfl, rfl, rfl, by decide +kernel, rfl, by decide +kernel, by decide +kernel⟩
theorem d_is_led_row {tb : Addr} (W : FunIn K mg "is_led_row" s_is_led_row) (Dis_row : Df P w K mg base "is_row" 2 ["value"] (spIsRow K tb)) (Dis_led : Df P w K mg base "is_led" 33 ["row"] (spIsLed K)) : Df P w K mg base "is_led_row" 34 ["value"] (spLedRow K tb) := by
  obtain ⟨f, fd, F, hm⟩ := W
  refine ⟨f, fd, F.ok sc_is_led_row (fun vs H Q E h => ?_) (fun cdv A outer s H vs Q E hr h => ?_), hm, F.kp, F.binds fun _ _ _ _ _ _ us hl => match us, hl with | [_], _ => rfl⟩
  · obtain ⟨x, qs, rfl, _⟩ := h
    rfl
  · obtain ⟨x, qs, rfl, hx, ht, h0, htb, q⟩ := h
    refine ⟨_, (pss_one (ps_ret (pe_and (pe_d Dis_row (hr.mono (by decide)) rfl (pa_cons (pv 0) pa_nil)) (pe_one (pe_d Dis_led (hr.mono (by decide)) rfl (pa_cons (pv 0) pa_nil)))))), ?_⟩
    refine ⟨x, rfl, x, qs, rfl, hx, ht, htb, fun H1 s1 => ?_⟩
    refine ⟨true, rfl, ?_⟩
    rw [if_pos rfl]
    exact ⟨x, rfl, x, qs, rfl, hx.mono (same_t s1), h0, fun H2 s2 => q H2 (s1.trans s2)⟩
/-- is_answer -/
def spIsAn (K : PySem.W.Frag) (tb : Addr) : Sp := fun vs H Q _ => ∃ (x : V) (ps qs : List Rat) (d e l N M : Nat), vs = [x] ∧ AnT K H x ps qs ∧ IsAns ps qs ∧ H tb = some (tabX tb) ∧ Cd d e ps ∧ Cd d e qs ∧ ShN d e l N M 1 ∧ ps.length + qs.length ≤ N ∧ ps.length ≤ M ∧ qs.length ≤ M ∧ ∀ H', Same H H' → Q (.bl true) H'
theorem sc_is_answer : FnScope ["value", "top", "under"] ["value"] (defScope s_is_answer) := ⟨rfl, rfl, rfl, by decide +kernel, rfl, by decide +kernel, by decide +kernel⟩
theorem d_is_answer {tb : Addr} (W : FunIn K mg "is_answer" s_is_answer) (T : Blt mg) (Dis_row : Df P w K mg base "is_row" 2 ["value"] (spIsRow K tb)) (Dis_led_row : Df P w K mg base "is_led_row" 34 ["value"] (spLedRow K tb)) (Dshared_part : Df P w K mg base "shared_part" 37 ["row", "other"] (spShare K)) : Dj P w K mg base "is_answer" 38 ["value"] "value" (spIsAn K tb) := by
  obtain ⟨f, fd, F, hm⟩ := W
  refine ⟨f, fd, F.ok sc_is_answer (fun vs H Q E h => ?_) (fun cdv A outer s H vs Q E hr h => ?_), hm, F.kp, F.binds fun _ _ _ _ _ _ us hl => match us, hl with | [_], _ => rfl, ?_⟩
  · obtain ⟨x, ps, qs, d, e, l, N, M, rfl, _⟩ := h
    rfl
  · obtain ⟨x, ps, qs, d, e, l, N, M, rfl, ⟨t, x1, x2, rfl, ht, h1, h2⟩, A1, htb, cp, cq, nums, lN, lp, lq, q⟩ := h
    have nd := sc_is_answer.nd
    refine ⟨_, (pss_cons (ps_if (PW.pt (pw_or (pt_cmpR op_isNotTy (pe_callTy call_typeT (by rfl) T.n_type (by decide +kernel) (pa_cons (pv 0) pa_nil)) (pe_bltn (by rfl) T.n_tuple (by rfl) (v := .ty "tuple") rfl) (nomark _)) (pw_or1 (pt_cmpR op_ne (pe_callB call_len_seq (by rfl) T.n_len (by decide +kernel) (pa_cons (pv 0) pa_nil)) pe_int (nomark _))))) (pss_one (ps_ret pe_bl)) pss_nil)
        (pss_cons (ps_asg (pv 0) (pg_tup rfl (pgs_cons (pg_name (i := 1) nd rfl (Or.inl rfl) (Or.inr rfl)) (pgs_cons (pg_name (i := 2) nd rfl (Or.inl rfl) (Or.inr rfl)) pgs_nil))))
        (pss_cons (ps_if (PW.pt (pw_or (pt_not (pt_val (pe_d Dis_row (hr.mono (by decide)) rfl (pa_cons (pv 1) pa_nil)))) (pw_or1 (pt_not (pt_val (pe_d Dis_led_row (hr.mono (by decide)) rfl (pa_cons (pv 2) pa_nil))))))) (pss_one (ps_ret pe_bl)) pss_nil)
        (pss_one (ps_ret (pe_cmpR op_eq (pe_callB call_len_seq (by rfl) T.n_len (by decide +kernel) (pa_cons (pe_d Dshared_part (hr.mono (by decide)) rfl (pa_cons (pv 1) (pa_cons (pv 2) pa_nil))) pa_nil)) pe_int (nomark _))))))), ?_⟩
    refine ⟨V.ref t, rfl, t, _, rfl, ht, _, _, rfl, rfl, _, rfl, ?_⟩
    refine tifn (fun h => absurd rfl h) (fun _ => ?_)
    refine ⟨V.ref t, rfl, t, _, rfl, Or.inr ht, rfl, _, rfl, ?_⟩
    refine tifn (fun h => absurd rfl h) (fun _ => ?_)
    refine ⟨V.ref t, rfl, t, _, rfl, ht, rfl, ⟨_, _, rfl, ⟨_, _, rfl, rfl, ?_⟩⟩⟩
    refine ⟨x1, rfl, x1, ps, rfl, h1, A1.tp, htb, fun H1 s1 => ⟨true, rfl, ?_⟩⟩
    have t1 := same_t s1
    refine ⟨x2, rfl, x2, qs, rfl, h2.mono t1, A1.tq, A1.h0, tab_mono t1 htb, fun H2 s2 => ⟨true, rfl, ?_⟩⟩
    have t2 := t1.trans (same_t s2)
    refine ⟨x1, rfl, x2, rfl, share_call (E := E) (h1.mono t2) (h2.mono t2) A1.tp A1.tq (Or.inr A1.ne) cp cq nums lN lp lq (fun f g' c pf G' hc hg _ => ?_) fun v g' H3 s3 hv G' c' l' => ?_⟩
    · have e1 : g' = [1] := Gcd.uniq A1.g G'
      rw [e1] at hg
      exact one_prim pf hg
    have e1 : g' = [1] := Gcd.uniq A1.g G'
    subst e1
    obtain ⟨a, us, rfl, ha, hA⟩ := hv
    have hL := hA.length
    refine ⟨a, us, rfl, Or.inr ha, rfl, ?_⟩
    have : us.length = 1 := hL
    rw [this]
    have e2 : decide (V.int ((1 : Nat) : Int) = V.int 1) = true := decide_eq_true rfl
    rw [e2]
    exact q H3 (s1.trans (s2.trans s3))
  · obtain ⟨oc, od, kV, doc, pm, an, cdv, ct, osl, rfl, lk, hcd⟩ := F.ex
    exact fun s u => BindsTo.of_eq (by first | rfl | with_unfolding_all rfl)
/-- check_answer -/
def spCkAn (K : PySem.W.Frag) (tb : Addr) : Sp := fun vs H Q _ => ∃ (x : V) (ps qs : List Rat) (d e l N M : Nat), vs = [x] ∧ AnT K H x ps qs ∧ IsAns ps qs ∧ H tb = some (tabX tb) ∧ Cd d e ps ∧ Cd d e qs ∧ ShN d e l N M 1 ∧ ps.length + qs.length ≤ N ∧ ps.length ≤ M ∧ qs.length ≤ M ∧ ∀ H', Same H H' → Q .non H'
theorem sc_check_answer : FnScope ["given"] ["given"] (defScope s_check_answer) := ⟨rfl, rfl, rfl, by decide +kernel, rfl, by decide +kernel, by decide +kernel⟩
theorem d_check_answer {tb : Addr} (W : FunIn K mg "check_answer" s_check_answer) (Dis_answer : Df P w K mg base "is_answer" 38 ["value"] (spIsAn K tb)) : Df P w K mg base "check_answer" 39 ["given"] (spCkAn K tb) := by
  obtain ⟨f, fd, F, hm⟩ := W
  refine ⟨f, fd, F.ok sc_check_answer (fun vs H Q E h => ?_) (fun cdv A outer s H vs Q E hr h => ?_), hm, F.kp, F.binds fun _ _ _ _ _ _ us hl => match us, hl with | [_], _ => rfl⟩
  · obtain ⟨x, ps, qs, d, e, l, N, M, rfl, _⟩ := h
    rfl
  · obtain ⟨x, ps, qs, d, e, l, N, M, rfl, hx, A1, htb, cp, cq, nums, lN, lp, lq, q⟩ := h
    refine ⟨_, (pss_one (ps_if (pt_not (pt_val (pe_d Dis_answer (hr.mono (by decide)) rfl (pa_cons (pv 0) pa_nil)))) (pss_one ps_absurd) pss_nil)), ?_⟩
    exact ⟨x, rfl, x, ps, qs, d, e, l, N, M, rfl, hx, A1, htb, cp, cq, nums, lN, lp, lq, fun H1 s1 => ⟨true, rfl, q H1 s1⟩⟩
/-- made_answer -/
def MdN (d e β M m : Nat) : Prop := d ≤ 3800 ∧ e ≤ 3800 ∧ d < m ∧ e < m ∧ m ≤ 3800 ∧ dSp d β M ≤ 3899 ∧ eSp e β β M ≤ 3899 ∧ M < 100 ∧ M * (β + 2) ≤ 700000
def spMdA (K : PySem.W.Frag) : Sp := fun vs H Q _ => ∃ (x y : V) (ps qs : List Rat) (d e l N M m : Nat), vs = [x, y] ∧ RwT K H x ps ∧ RwT K H y qs ∧ Tr ps ∧ Tr qs ∧ at0 qs 0 ≠ 0 ∧ Cd d e ps ∧ Cd d e qs ∧ ShN d e l N M (bChain l (e + 1) N) ∧ MdN d e (bChain l (e + 1) N) M m ∧ ps.length + qs.length ≤ N ∧ ps.length ≤ M ∧ qs.length ≤ M ∧
  ∀ v E F H', Same H H' → AnT K H' v E F → IsAns E F → (∀ z, ev ps z * ev F z = ev qs z * ev E z) → Cd (dSp d (bChain l (e + 1) N) M + m) (eSp e (bChain l (e + 1) N) (bChain l (e + 1) N) M + m) E → Cd (dSp d (bChain l (e + 1) N) M + m) (eSp e (bChain l (e + 1) N) (bChain l (e + 1) N) M + m) F → E.length ≤ ps.length → F.length ≤ qs.length → Q v H'
theorem sc_made_answer : FnScope ["top", "under", "part", "even"] ["top", "under"] (defScope s_made_answer) := ⟨rfl, rfl, rfl, by decide +kernel, rfl, by decide +kernel, by decide +kernel⟩
theorem d_made_answer {aONE : Addr} (W : FunIn K mg "made_answer" s_made_answer) (hONE : OneC K mg aONE) (Dshared_part : Df P w K mg base "shared_part" 37 ["row", "other"] (spShare K)) (Dratio_over : Df P w K mg base "ratio_over" 34 ["one", "other"] (spQ2 K)) (Dscaled : Df P w K mg base "scaled" 35 ["row", "fraction"] (spScl K)) (Dquotient_of : Df P w K mg base "quotient_of" 37 ["row", "other"] (spQuoD K)) : Df P w K mg base "made_answer" 38 ["top", "under"] (spMdA K) := by
  obtain ⟨f, fd, F, hm⟩ := W
  refine ⟨f, fd, F.ok sc_made_answer (fun vs H Q E h => ?_) (fun cdv A outer s H vs Q E hr h => ?_), hm, F.kp, F.binds fun _ _ _ _ _ _ us hl => match us, hl with | [_, _], _ => rfl⟩
  · obtain ⟨x, y, ps, qs, d, e, l, N, M, m, rfl, _⟩ := h
    rfl
  · obtain ⟨x, y, ps, qs, d, e, l, N, M, m, rfl, hx, hy, tp, tq, h0, cp, cq, nums, md, lN, lp, lq, q⟩ := h
    have nd := sc_made_answer.nd
    have nq : qs ≠ [] := ne_of_at0 h0
    have nums' := nums
    obtain ⟨n1, n2, n3, n4, n5, n6, n7, n8⟩ := nums'
    generalize hβ : bChain l (e + 1) N = β at nums md q n5 n6 n8
    obtain ⟨m1, m2, m3, m4, m5, m6, m7, m8, m9⟩ := md
    have zq := cd_qs cq m3 m4
    have zu : Qz m (at0 qs 0) := by
      cases qs with
      | nil => exact absurd rfl nq
      | cons c l => exact zq c List.mem_cons_self
    refine ⟨_, (pss_cons (ps_set (i := 2) nd rfl (Or.inl rfl) (pe_d Dshared_part (hr.mono (by decide)) rfl (pa_cons (pv 0) (pa_cons (pv 1) pa_nil))))
        (pss_cons (ps_set (i := 3) nd rfl (Or.inl rfl) (pe_d Dratio_over (hr.mono (by decide)) rfl (pa_cons (pe_glob (v := .ref aONE) rfl hONE.g rfl) (pa_cons (pe_ix ix_tup (pv 1) pe_int (fun _ _ => rfl)) pa_nil))))
        (pss_one (ps_ret (pe_tup (pa_cons (pe_d Dscaled (hr.mono (by decide)) rfl (pa_cons (pe_d Dquotient_of (hr.mono (by decide)) rfl (pa_cons (pv 0) (pa_cons (pv 2) pa_nil))) (pa_cons (pv 3) pa_nil))) (pa_cons (pe_d Dscaled (hr.mono (by decide)) rfl (pa_cons (pe_d Dquotient_of (hr.mono (by decide)) rfl (pa_cons (pv 1) (pa_cons (pv 2) pa_nil))) (pa_cons (pv 3) pa_nil))) pa_nil))))))), ?_⟩
    refine ⟨x, rfl, y, rfl, share_call (E := E) (γ := β) hx hy tp tq (Or.inr nq) cp cq nums lN lp lq (fun f g' c _ _ _ _ h => by rw [hβ] at h; exact h) fun vg g H1 s1 hvg G cg lg => ?_⟩
    have t1 := same_t s1
    have ng := G.ld.ne
    have lg1 := List.length_pos_iff.mpr ng
    have hy1 := hy.mono t1
    obtain ⟨a, us, rfl, ha, hA⟩ := hy1
    obtain ⟨u0, hat, hu0⟩ := fra_head hA nq
    have hy1 : RwT K H1 (V.ref a) qs := ⟨a, us, rfl, ha, hA⟩
    refine ⟨V.ref a, rfl, a, us, 0, u0, rfl, rfl, ha, hat, ?_⟩
    refine ⟨V.ref aONE, u0, 1, at0 qs 0, rfl, hONE.fr _, hu0, h0, qz1 (by decide), zu.mono (by omega), fun ve H2 s2 hve => ?_⟩
    have t2 := t1.trans (same_t s2)
    have zi : Qz m (1 / at0 qs 0) := qz_inv zu h0
    refine ⟨x, rfl, vg, rfl, x, vg, ps, g, d, e, β, β, M, rfl, hx.mono t2, hvg.mono (same_t s2), G.tr, ng, cp, cg, by omega, by omega, n1, by omega, n2, by omega, by omega, m9, G.l, fun v1 oo H3 s3 hv1 to ho lo co => ?_⟩
    have t23 := same_t (s2.trans s3)
    refine ⟨ve, rfl, v1, ve, oo, 1 / at0 qs 0, 3900, m, rfl, hv1, hve.mono (same_t s3), cd_qs co (by omega) (by omega), zi, by decide, by omega, by omega, fun w1 H4 s4 hw1 => ?_⟩
    have t24 := t23.trans (same_t s4)
    refine ⟨V.ref a, rfl, vg, rfl, V.ref a, vg, qs, g, d, e, β, β, M, rfl, hy1.mono t24, hvg.mono t24, G.tr, ng, cq, cg, by omega, by omega, n1, by omega, n2, by omega, by omega, m9, G.r, fun v2 t H5 s5 hv2 tt ht lt ct => ?_⟩
    refine ⟨ve, rfl, v2, ve, t, 1 / at0 qs 0, 3900, m, rfl, hv2, hve.mono (same_t (s3.trans (s4.trans s5))), cd_qs ct (by omega) (by omega), zi, by decide, by omega, by omega, fun w2 H6 s6 hw2 => ?_⟩
    refine ⟨sz_of 2 rfl (by decide), fun p hp => ?_⟩
    have s7 := same_new (o := .tup [w1, w2]) hp
    have e7 : upd H6 p (.tup [w1, w2]) p = some (.tup [w1, w2]) := upd_same
    generalize upd H6 p (.tup [w1, w2]) = H7 at s7 e7
    obtain ⟨AA, hxx⟩ := ans_of G to tt ho ht rfl h0
    refine q (V.ref p) _ _ H7 (s1.trans (s2.trans (s3.trans (s4.trans (s5.trans (s6.trans s7)))))) ⟨p, w1, w2, rfl, SqT.of e7, hw1.mono (same_t (s5.trans (s6.trans s7))), hw2.mono (same_t s7)⟩ AA hxx (cd_smul co zi) (cd_smul ct zi) (by rw [smul_len]; exact lo) (by rw [smul_len]; exact lt)
/-- answer_of -/
def spAnOf (K : PySem.W.Frag) (tb : Addr) : Sp := fun vs H Q E => ∃ (x y : V) (ps qs : List Rat), vs = [x, y] ∧ RwT K H x ps ∧ RwT K H y qs ∧ Tr ps ∧ Tr qs ∧ at0 qs 0 ≠ 0 ∧ H tb = some (tabX tb) ∧ ∀ H', Same H H' → spMdA K [x, y] H' Q E
theorem sc_answer_of : FnScope ["row", "other"] ["row", "other"] (defScope s_answer_of) := ⟨rfl, rfl, rfl, by decide +kernel, rfl, by decide +kernel, by decide +kernel⟩
theorem d_answer_of {tb aNIL : Addr} (W : FunIn K mg "answer_of" s_answer_of) (hNIL : NilC K mg aNIL) (Dcheck_row : Df P w K mg base "check_row" 35 ["given"] (spCkRow K tb)) (Dcheck_filled_row : Df P w K mg base "check_filled_row" 4 ["given"] (spCkFil K tb)) (Dmade_answer : Df P w K mg base "made_answer" 38 ["top", "under"] (spMdA K)) : Dk P w K mg base "answer_of" 39 ["row", "other"] "other" "row" (spAnOf K tb) := by
  obtain ⟨f, fd, F, hm⟩ := W
  refine ⟨f, fd, F.ok sc_answer_of (fun vs H Q E h => ?_) (fun cdv A outer s H vs Q E hr h => ?_), hm, F.kp, F.binds fun _ _ _ _ _ _ us hl => match us, hl with | [_, _], _ => rfl, ?_⟩
  · obtain ⟨x, y, ps, qs, rfl, _⟩ := h
    rfl
  · obtain ⟨x, y, ps, qs, rfl, hx, hy, tp, tq, h0, htb, q⟩ := h
    have nq : qs ≠ [] := ne_of_at0 h0
    refine ⟨_, (pss_cons (ps_expr (pe_d Dcheck_row (hr.mono (by decide)) rfl (pa_cons (pv 0) pa_nil)))
        (pss_cons (ps_expr (pe_d Dcheck_filled_row (hr.mono (by decide)) rfl (pa_cons (pv 1) pa_nil)))
        (pss_cons (ps_if (pt_cmpR (op_eqD (hu64 hr)) (pe_ix ix_tup (pv 1) pe_int (fun _ _ => rfl)) (pe_glob (v := .ref aNIL) rfl hNIL.g rfl) (nomark _)) (pss_one ps_absurd) pss_nil)
        (pss_one (ps_ret (pe_d Dmade_answer (hr.mono (by decide)) rfl (pa_cons (pv 0) (pa_cons (pv 1) pa_nil)))))))), ?_⟩
    refine ⟨x, rfl, x, ps, rfl, hx, tp, htb, fun H1 s1 => ?_⟩
    have t1 := same_t s1
    refine ⟨y, rfl, y, qs, rfl, hy.mono t1, tq, nq, tab_mono t1 htb, fun H2 s2 => ?_⟩
    have t2 := t1.trans (same_t s2)
    have hy2 := hy.mono t2
    obtain ⟨a, us, rfl, ha, hA⟩ := hy2
    obtain ⟨u0, hat, hu0⟩ := fra_head hA nq
    refine ⟨V.ref a, rfl, a, us, 0, u0, rfl, rfl, ha, hat, ?_⟩
    refine rEqD_frC hu0 (hNIL.fr H2) ⟨_, rfl, ?_⟩
    refine tif (fun h => absurd h h0) (fun _ => ?_)
    exact ⟨x, rfl, V.ref a, rfl, q H2 (s1.trans s2)⟩
  · obtain ⟨oc, od, kV, doc, pm, an, cdv, ct, osl, rfl, lk, hcd⟩ := F.ex
    exact fun s u v => BindsTo.of_eq (by first | rfl | with_unfolding_all rfl)
end
end Vx
namespace Vx
open PySem PySem.Spec PyProof.Rows L2
/-- the first numbers of a quotient -/
def Ser (T U xs : List Rat) : Prop := ∀ k, k < xs.length → cf (at0 U) (at0 xs) k = at0 T k
theorem cf_head (f y : Nat → Rat) (k : Nat) : cf f y k = f 0 * y k + sm (fun i => f (i + 1) * y (k - (i + 1))) k := by
  unfold cf
  rw [sm_front]
  rfl
theorem cf_cancel {f y : Nat → Rat} {n : Nat} (h0 : f 0 ≠ 0) (h : ∀ k, k < n → cf f y k = 0) : ∀ k, k < n → y k = 0 := by
  intro k
  induction k using Nat.strongRecOn with
  | _ k ih =>
    intro hk
    have h1 := h k hk
    rw [cf_head, sm_zero _ fun i hi => by rw [ih (k - (i + 1)) (by omega) (by omega), Rat.mul_zero]] at h1
    grind
theorem cf_mul (a b : List Rat) (y : Nat → Rat) (m : Nat) : cf (at0 a) (cf (at0 b) y) m = cf (at0 b) (cf (at0 a) y) m := by
  rw [← cf_mulP, ← cf_mulP]
  refine cf_congr (fun i _ => ?_) fun _ _ => rfl
  rw [← cf_dlR (at0 (mulP a b)) i, ← cf_dlR (at0 (mulP b a)) i, cf_mulP, cf_mulP]
  have e : ∀ c : List Rat, (fun m => cf (at0 c) dl m) = at0 c := fun c => funext fun m => cf_dlR _ _
  show cf (at0 a) (fun m => cf (at0 b) dl m) i = cf (at0 b) (fun m => cf (at0 a) dl m) i
  rw [e, e, cf_comm]
/-- the same quotient by other rows -/
theorem Ser.cross {T U E F xs : List Rat} (h : Ser E F xs) (h0 : at0 F 0 ≠ 0) (hx : ∀ z, ev T z * ev F z = ev E z * ev U z) : Ser T U xs := fun k hk => by
  have key : ∀ k, k < xs.length → cf (at0 F) (fun i => cf (at0 U) (at0 xs) i - at0 T i) k = 0 := fun k hk => by
    rw [cf_linR (f := at0 F) (y := cf (at0 U) (at0 xs)) (z := at0 T) (c := 1) (d := -1) (fun i => by grind), cf_mul, cf_congr (g := at0 U) (z := at0 E) (fun _ _ => rfl) (fun i hi => h i (by omega))]
    have e1 := cf_of_ev (r := pmul U E) (a := U) (b := E) (fun z => ev_pmul _ _ z) k
    have e2 := cf_of_ev (r := pmul U E) (a := F) (b := T) (fun z => by rw [ev_pmul, Rat.mul_comm, ← hx, Rat.mul_comm]) k
    rw [← e1, ← e2]
    grind
  have := cf_cancel h0 key k hk
  grind
theorem Ser.uniq {T U xs ys : List Rat} (h : Ser T U xs) (h' : Ser T U ys) (h0 : at0 U 0 ≠ 0) (hl : xs.length = ys.length) : xs = ys := by
  have key := cf_cancel (f := at0 U) (y := fun i => at0 xs i - at0 ys i) (n := xs.length) h0 fun k hk => by
    rw [cf_linR (f := at0 U) (y := at0 xs) (z := at0 ys) (c := 1) (d := -1) (fun i => by grind), h k hk, h' k (by omega)]
    grind
  refine List.ext_getElem? fun i => ?_
  by_cases hi : i < xs.length
  · have := key i hi
    rw [at0_get hi, at0_get (show i < ys.length by omega)]
    congr 1
    grind
  · rw [List.getElem?_eq_none (by omega), List.getElem?_eq_none (by omega)]
/-- the same first numbers, and short rows: the same quotient -/
theorem Ser.back {T U T' U' xs : List Rat} (h : Ser T U xs) (h' : Ser T' U' xs) (l1 : T.length + U'.length ≤ xs.length + 1) (l2 : T'.length + U.length ≤ xs.length + 1) : ∀ z, ev T z * ev U' z = ev T' z * ev U z := fun z => by
  rw [Rat.mul_comm (ev T z), Rat.mul_comm (ev T' z), ← ev_pmul, ← ev_pmul]
  refine ev_at (fun k => ?_) z
  by_cases hk : k < xs.length
  · have e1 := cf_of_ev (r := pmul U' T) (a := U') (b := T) (fun z => ev_pmul _ _ z) k
    have e2 := cf_of_ev (r := pmul U T') (a := U) (b := T') (fun z => ev_pmul _ _ z) k
    rw [e1, e2, ← cf_congr (f := at0 U') (y := cf (at0 U) (at0 xs)) (fun _ _ => rfl) (fun i hi => h i (by omega)), cf_mul]
    exact cf_congr (fun _ _ => rfl) fun i hi => h' i (by omega)
  · have m1 := pmul_len_le U' T
    have m2 := pmul_len_le U T'
    rw [at0_out (by omega), at0_out (by omega)]
end Vx
namespace Vx
open PySem PySem.Spec PyProof.Rows L2
/-- over D, the number above at most C -/
def OvN (D C : Nat) (x : Rat) : Prop := ∃ n : Int, x * (D : Rat) = (n : Rat) ∧ n.natAbs ≤ C
theorem OvN.mono {D C C' : Nat} {x : Rat} (h : OvN D C x) (le : C ≤ C') : OvN D C' x := let ⟨n, e, g⟩ := h; ⟨n, e, Nat.le_trans g le⟩
theorem OvN.sub {D C C' : Nat} {x y : Rat} (h : OvN D C x) (k : OvN D C' y) : OvN D (C + C') (x - y) := by
  obtain ⟨n, e, g⟩ := h
  obtain ⟨m, f, g2⟩ := k
  refine ⟨n - m, by push_cast; grind, by omega⟩
theorem OvN.up {D C K : Nat} {x : Rat} (h : OvN D C x) : OvN (D * K) (C * K) x := by
  obtain ⟨n, e, g⟩ := h
  refine ⟨n * (K : Int), ?_, by rw [Int.natAbs_mul, Int.natAbs_natCast]; exact Nat.mul_le_mul_right _ g⟩
  have e1 : ((D * K : Nat) : Rat) = (D : Rat) * (K : Rat) := Rat.natCast_mul _ _
  have e2 : ((n * (K : Int) : Int) : Rat) = (n : Rat) * ((K : Int) : Rat) := Rat.intCast_mul _ _
  have e3 : (((K : Nat) : Int) : Rat) = (K : Rat) := rfl
  rw [e1, e2, e3, ← e]
  grind
theorem OvN.mul {D C D' C' : Nat} {x y : Rat} (h : OvN D C x) (k : OvN D' C' y) : OvN (D * D') (C * C') (x * y) := by
  obtain ⟨n, e, g⟩ := h
  obtain ⟨m, f, g2⟩ := k
  refine ⟨n * m, ?_, by rw [Int.natAbs_mul]; exact Nat.mul_le_mul g g2⟩
  have e1 : ((D * D' : Nat) : Rat) = (D : Rat) * (D' : Rat) := Rat.natCast_mul _ _
  have e2 : ((n * m : Int) : Rat) = (n : Rat) * (m : Rat) := Rat.intCast_mul _ _
  rw [e1, e2, ← e, ← f]
  grind
theorem OvN.qz {D C c : Nat} {x : Rat} (h : OvN D C x) (h0 : 0 < D) (hD : D < 2 ^ c) (hC : C < 2 ^ c) : Qz c x := by
  obtain ⟨n, e, g⟩ := h
  have hd : (D : Rat) ≠ 0 := by exact_mod_cast (show D ≠ 0 by omega)
  have e1 : x = Rat.divInt n (D : Int) := by
    rw [Rat.divInt_eq_div]
    have e3 : (((D : Nat) : Int) : Rat) = (D : Rat) := rfl
    rw [e3, ← e]
    grind
  rw [e1]
  exact Qz.of_div (Nat.lt_of_le_of_lt g hC) (by show ((D : Int)).natAbs < _; rw [Int.natAbs_natCast]; exact hD) (by omega)
/-- what is left of a number when p products are taken from it -/
def pt (T U xs : List Rat) (k p : Nat) : Rat := at0 T k - sm (fun j => at0 U (j + 1) * at0 xs (k - (j + 1))) p
theorem pt_succ (T U xs : List Rat) (k p : Nat) : pt T U xs k (p + 1) = pt T U xs k p - at0 U (p + 1) * at0 xs (k - (p + 1)) := by
  unfold pt
  show at0 T k - (sm _ p + _) = _
  grind
theorem pt_end (T U xs : List Rat) (k : Nat) {p : Nat} (hp : p ≤ k) (h : U.length ≤ p + 1) : pt T U xs k p = pt T U xs k k := by
  unfold pt
  rw [sm_ext (n := p) k hp fun i hi => by rw [at0_out (by omega), Rat.zero_mul]]
theorem ser_snoc {T U xs : List Rat} {x : Rat} (h : Ser T U xs) (h0 : at0 U 0 ≠ 0) (hx : x = pt T U xs xs.length xs.length / at0 U 0) : Ser T U (xs ++ [x]) := fun k hk => by
  rw [List.length_append, List.length_singleton] at hk
  have hin : ∀ i, i < xs.length → at0 (xs ++ [x]) i = at0 xs i := fun i hi => by
    unfold at0
    rw [List.getD_eq_getElem?_getD, List.getD_eq_getElem?_getD, List.getElem?_append_left hi]
  by_cases hk2 : k < xs.length
  · rw [← h k hk2]
    exact cf_congr (fun _ _ => rfl) fun i hi => hin i (by omega)
  · have e : k = xs.length := by omega
    subst e
    have hl : at0 (xs ++ [x]) xs.length = x := by
      unfold at0
      rw [List.getD_eq_getElem?_getD, List.getElem?_append_right (Nat.le_refl _), Nat.sub_self]
      rfl
    rw [cf_head, hl, sm_congr (g := fun i => at0 U (i + 1) * at0 xs (xs.length - (i + 1))) _ fun i hi => by rw [hin _ (by omega)], hx]
    unfold pt
    grind
/-- sizes of what is left, over the same rows -/
theorem pt_ov {T U xs : List Rat} {D1 D2 u e e2 d2 k : Nat} (hT : OvN D1 (2 ^ e) (at0 T k)) (hU : ∀ j, OvN D2 (2 ^ e2) (at0 U j)) (hu : u ≤ 2 ^ e2) (hd : D2 ≤ 2 ^ d2) (hx : ∀ i, i < k → OvN (D1 * u ^ (i + 1)) (2 ^ (e + d2 + (e2 + 1) * i)) (at0 xs i)) :
    ∀ p, p ≤ k → OvN (D1 * D2 * u ^ k) (2 ^ (e + d2 + e2 * k) * (2 ^ k + 1 - 2 ^ (k - p))) (pt T U xs k p)
  | 0, _ => by
    have h1 := (hT.up (K := D2)).up (K := u ^ k)
    have e1 : pt T U xs k 0 = at0 T k := by
      unfold pt
      show at0 T k - 0 = _
      grind
    rw [e1]
    refine h1.mono ?_
    rw [Nat.sub_zero, show 2 ^ k + 1 - 2 ^ k = 1 by omega, Nat.mul_one, Nat.pow_add, Nat.pow_add, Nat.pow_mul]
    exact Nat.mul_le_mul (Nat.mul_le_mul_left _ hd) (Nat.pow_le_pow_left hu k)
  | p + 1, hp => by
    have ih := pt_ov hT hU hu hd hx p (by omega)
    rw [pt_succ]
    obtain ⟨i, hi⟩ : ∃ i, k - (p + 1) = i := ⟨_, rfl⟩
    have hik : k = i + 1 + p := by omega
    have h1 := ((hU (p + 1)).mul (hx i (by omega))).up (K := u ^ p)
    have eD : D2 * (D1 * u ^ (i + 1)) * u ^ p = D1 * D2 * u ^ k := by
      have e9 : u ^ k = u ^ (i + 1) * u ^ p := by rw [hik, Nat.pow_add]
      rw [e9]
      generalize u ^ (i + 1) = x1
      generalize u ^ p = x2
      ac_rfl
    rw [eD] at h1
    have eC : 2 ^ e2 * 2 ^ (e + d2 + (e2 + 1) * i) * u ^ p ≤ 2 ^ (e + d2 + e2 * k) * 2 ^ i := by
      have h2 : u ^ p ≤ 2 ^ (e2 * p) := by
        rw [Nat.pow_mul]
        exact Nat.pow_le_pow_left hu p
      refine Nat.le_trans (Nat.mul_le_mul_left _ h2) ?_
      rw [← Nat.pow_add, ← Nat.pow_add, ← Nat.pow_add]
      refine Nat.pow_le_pow_right (by decide) ?_
      rw [hik, Nat.mul_add, Nat.mul_add, Nat.add_mul]
      omega
    rw [hi]
    refine (ih.sub (h1.mono eC)).mono ?_
    rw [← Nat.mul_add]
    refine Nat.mul_le_mul_left _ ?_
    have h3 : 2 ^ (k - p) = 2 ^ i * 2 := by rw [← Nat.pow_succ]; congr 1; omega
    have h4 : 2 ^ i ≤ 2 ^ k := Nat.pow_le_pow_right (by decide) (by omega)
    have h5 : 2 ^ (k - p) ≤ 2 ^ k := Nat.pow_le_pow_right (by decide) (by omega)
    omega
theorem cd_ovn {a b : Nat} {l : List Rat} (h : Cd a b l) : ∃ D, 0 < D ∧ D ≤ 2 ^ a ∧ ∀ j, OvN D (2 ^ b) (at0 l j) := by
  obtain ⟨D, h0, h1, h2⟩ := h
  refine ⟨D, h0, h1, fun j => ?_⟩
  by_cases hj : j < l.length
  · exact h2 _ (List.mem_of_getElem? (at0_get hj))
  · rw [at0_out (by omega)]
    exact ⟨0, by grind, Nat.zero_le _⟩
/-- the sizes of the first numbers -/
theorem ser_ov {T U : List Rat} {d e d2 e2 : Nat} (cT : Cd d e T) (cU : Cd d2 e2 U) (h0 : at0 U 0 ≠ 0) : ∃ D1 D2 u : Nat, 0 < D1 ∧ D1 ≤ 2 ^ d ∧ 0 < D2 ∧ D2 ≤ 2 ^ d2 ∧ 0 < u ∧ u ≤ 2 ^ e2 ∧ (∀ j, OvN D1 (2 ^ e) (at0 T j)) ∧ (∀ j, OvN D2 (2 ^ e2) (at0 U j)) ∧
    ∀ xs, Ser T U xs → ∀ k, k < xs.length → OvN (D1 * u ^ (k + 1)) (2 ^ (e + d2 + (e2 + 1) * k)) (at0 xs k) := by
  obtain ⟨D1, p1, b1, o1⟩ := cd_ovn cT
  obtain ⟨D2, p2, b2, o2⟩ := cd_ovn cU
  obtain ⟨n0, hn0, hb0⟩ := o2 0
  have r2 : (D2 : Rat) ≠ 0 := by exact_mod_cast (show D2 ≠ 0 by omega)
  have hn00 : n0 ≠ 0 := fun z => by
    rw [z] at hn0
    have : at0 U 0 * (D2 : Rat) = 0 := by rw [hn0]; rfl
    rcases Rat.mul_eq_zero.mp this with z | z
    · exact h0 z
    · exact r2 z
  refine ⟨D1, D2, n0.natAbs, p1, b1, p2, b2, by omega, hb0, o1, o2, fun xs S => ?_⟩
  intro k
  induction k using Nat.strongRecOn with
  | _ k ih =>
    intro hk
    have h1 := pt_ov (k := k) (o1 k) o2 hb0 b2 (fun i hi => ih i hi (by omega)) k (Nat.le_refl _)
    have e0 : 2 ^ k + 1 - 2 ^ (k - k) = 2 ^ k := by rw [Nat.sub_self]; rfl
    rw [e0, ← Nat.pow_add] at h1
    obtain ⟨R, hR, hRb⟩ := h1
    have hpt : pt T U xs k k = at0 U 0 * at0 xs k := by
      have h2 := S k hk
      rw [cf_head] at h2
      unfold pt
      grind
    rw [hpt] at hR
    have c1 : ((D1 * D2 * n0.natAbs ^ k : Nat) : Rat) = (D1 : Rat) * (D2 : Rat) * ((n0.natAbs ^ k : Nat) : Rat) := by rw [Rat.natCast_mul, Rat.natCast_mul]
    have c2 : ((D1 * n0.natAbs ^ (k + 1) : Nat) : Rat) = (D1 : Rat) * (((n0.natAbs ^ k : Nat) : Rat) * (n0.natAbs : Rat)) := by rw [Nat.pow_succ, Rat.natCast_mul, Rat.natCast_mul]
    have ebits : e + d2 + e2 * k + k ≤ e + d2 + (e2 + 1) * k := by rw [Nat.add_mul]; omega
    have hRb' := Nat.le_trans hRb (Nat.pow_le_pow_right (by decide) ebits)
    rw [c1] at hR
    generalize ((n0.natAbs ^ k : Nat) : Rat) = w at *
    have key : at0 xs k * ((D1 : Rat) * (w * (n0 : Rat))) = (R : Rat) := by
      rw [← hR, ← hn0]
      grind
    rcases Int.natAbs_eq n0 with z | z
    · refine ⟨R, ?_, hRb'⟩
      rw [c2]
      have e3 : ((n0.natAbs : Nat) : Rat) = (n0 : Rat) := by exact_mod_cast z.symm
      rw [e3, key]
    · refine ⟨-R, ?_, by rw [Int.natAbs_neg]; exact hRb'⟩
      rw [c2]
      have e3 : ((n0.natAbs : Nat) : Rat) = -(n0 : Rat) := by
        have : ((n0.natAbs : Nat) : Int) = -n0 := by omega
        exact_mod_cast this
      rw [e3]
      push_cast
      rw [← key]
      grind
/-- sizes of what is left, over other rows of the same quotient -/
theorem ptF_ov {E F xs : List Rat} {DE DF D1 u eE dE eF dF d e2 b c k : Nat} (hE : OvN DE (2 ^ eE) (at0 E k)) (hF : ∀ j, OvN DF (2 ^ eF) (at0 F j)) (h1 : DE ≤ 2 ^ dE) (h2 : DF ≤ 2 ^ dF) (h3 : D1 ≤ 2 ^ d) (hu : u ≤ 2 ^ e2) (hx : ∀ i, i < k → OvN (D1 * u ^ (i + 1)) (2 ^ b) (at0 xs i))
    (c1 : eE + dF + d + e2 * k ≤ c) (c2 : eF + b + dE + e2 * k ≤ c) : ∀ p, p ≤ k → OvN (DE * DF * D1 * u ^ k) ((p + 1) * 2 ^ c) (pt E F xs k p)
  | 0, _ => by
    have h4 := ((hE.up (K := DF)).up (K := D1)).up (K := u ^ k)
    have e1 : pt E F xs k 0 = at0 E k := by
      unfold pt
      show at0 E k - 0 = _
      grind
    rw [e1]
    refine h4.mono ?_
    rw [Nat.zero_add, Nat.one_mul]
    refine Nat.le_trans (Nat.mul_le_mul (Nat.mul_le_mul (Nat.mul_le_mul_left _ h2) h3) (Nat.pow_le_pow_left hu k)) ?_
    rw [← Nat.pow_mul, ← Nat.pow_add, ← Nat.pow_add, ← Nat.pow_add]
    exact Nat.pow_le_pow_right (by decide) c1
  | p + 1, hp => by
    have ih := ptF_ov hE hF h1 h2 h3 hu hx c1 c2 p (by omega)
    rw [pt_succ]
    obtain ⟨i, hi⟩ : ∃ i, k - (p + 1) = i := ⟨_, rfl⟩
    have hik : k = i + 1 + p := by omega
    have h4 := (((hF (p + 1)).mul (hx i (by omega))).up (K := DE)).up (K := u ^ p)
    have eD : DF * (D1 * u ^ (i + 1)) * DE * u ^ p = DE * DF * D1 * u ^ k := by
      have e9 : u ^ k = u ^ (i + 1) * u ^ p := by rw [hik, Nat.pow_add]
      rw [e9]
      generalize u ^ (i + 1) = x1
      generalize u ^ p = x2
      ac_rfl
    rw [eD] at h4
    have eC : 2 ^ eF * 2 ^ b * DE * u ^ p ≤ 2 ^ c := by
      refine Nat.le_trans (Nat.mul_le_mul (Nat.mul_le_mul_left _ h1) (Nat.pow_le_pow_left hu p)) ?_
      rw [← Nat.pow_mul, ← Nat.pow_add, ← Nat.pow_add, ← Nat.pow_add]
      refine Nat.pow_le_pow_right (by decide) (Nat.le_trans ?_ c2)
      have := Nat.mul_le_mul_left e2 (show p ≤ k by omega)
      omega
    rw [hi]
    refine (ih.sub (h4.mono eC)).mono ?_
    rw [Nat.add_mul (p + 1) 1, Nat.one_mul]
    exact Nat.le_refl _
end Vx
namespace Vx
open PySem PySem.Spec PyProof.Rows L2
local macro_rules | `(tactic| walk_at "cl") => `(tactic| first | assumption | exact Bz.mono (Bz.mul (by assumption) (by assumption)) (by decide) | rfl | omega | exact sz_of 0 rfl (by decide) | exact sz_of 1 rfl (by decide) | exact sz_of 2 rfl (by decide) | exact sz_of 3 rfl (by decide) | exact cmuly (by assumption) (by assumption) (by decide) | exact Bz.mono (Bz.mul (by assumption) (by assumption)) (by decide) | decide)
local macro_rules | `(tactic| walk_at "ex") => `(tactic| ((show Exists _); first | apply @Exists.intro V | apply @Exists.intro Int | apply @Exists.intro Addr | apply @Exists.intro (List V) | apply @Exists.intro Nat | apply @Exists.intro Str | apply @Exists.intro Bool | apply @Exists.intro (Option V) | apply @Exists.intro String | apply @Exists.intro Rat | apply @Exists.intro (List Rat)))
local macro_rules | `(tactic| walk_at "rd") => `(tactic| ((repeat (first | (walk_at "ex") | (apply And.intro; (focus (walk_at "cl"))))); (try dsimp only [])))
local macro_rules | `(tactic| walk_at "r0") => `(tactic| (repeat (first | (walk_at "ex") | (apply And.intro; (focus (walk_at "cl"))))))
theorem gn_seq {i : Nat} {v : V} {σ : L2.St} {H : Hp} {S T : TS} {D : Ends} (h : tSeq S T D (σ.set i (some v)) H) : gName i v σ H (tSeq S T D) := h
section
variable {P : Program} {w : World} {K : PySem.W.Frag} {mg : Str → Option Value} {base : Heap}
/-- is_whole -/
def spIsW : Sp := fun vs H Q _ => ∃ i : Int, vs = [.int i] ∧ Q (.bl true) H
theorem sc_is_whole : FnScope ["value"] ["value"] (defScope s_is_whole) := ⟨rfl, rfl, rfl, by decide +kernel, rfl, by decide +kernel, by decide +kernel⟩
theorem d_is_whole (W : FunIn K mg "is_whole" s_is_whole) (T : Blt mg) : Df P w K mg base "is_whole" 33 ["value"] (spIsW) := by
  obtain ⟨f, fd, F, hm⟩ := W
  refine ⟨f, fd, F.ok sc_is_whole (fun vs H Q E h => ?_) (fun cdv A outer s H vs Q E hr h => ?_), hm, F.kp, F.binds fun _ _ _ _ _ _ us hl => match us, hl with | [_], _ => rfl⟩
  · obtain ⟨i, rfl, _⟩ := h
    rfl
  · obtain ⟨i, rfl, q⟩ := h
    refine ⟨_, (pss_one (ps_ret (pe_cmpR op_isTy (pe_callTy call_typeI (by rfl) T.n_type (by decide +kernel) (pa_cons (pv 0) pa_nil)) (pe_bltn (by rfl) T.n_int (by rfl) (v := .ty "int") rfl) (nomark _)))), ?_⟩
    refine ⟨V.int i, rfl, i, rfl, _, _, rfl, rfl, ?_⟩
    rw [decide_eq_true rfl]
    exact q
/-- check_number -/
def spCkNum : Sp := fun vs H Q _ => ∃ i lo hi : Int, vs = [.int i, .int lo, .int hi] ∧ lo ≤ i ∧ i ≤ hi ∧ Q .non H
theorem sc_check_number : FnScope ["given", "low", "high"] ["given", "low", "high"] (defScope s_check_number) := ⟨rfl, rfl, rfl, by decide +kernel, rfl, by decide +kernel, by decide +kernel⟩
theorem d_check_number (W : FunIn K mg "check_number" s_check_number) (Dis_whole : Df P w K mg base "is_whole" 33 ["value"] spIsW) : Df P w K mg base "check_number" 34 ["given", "low", "high"] (spCkNum) := by
  obtain ⟨f, fd, F, hm⟩ := W
  refine ⟨f, fd, F.ok sc_check_number (fun vs H Q E h => ?_) (fun cdv A outer s H vs Q E hr h => ?_), hm, F.kp, F.binds fun _ _ _ _ _ _ us hl => match us, hl with | [_, _, _], _ => rfl⟩
  · obtain ⟨i, lo, hi, rfl, _⟩ := h
    rfl
  · obtain ⟨i, lo, hi, rfl, h1, h2, q⟩ := h
    refine ⟨_, (pss_one (ps_if (PW.pt (pw_or (pt_not (pt_val (pe_d Dis_whole (hr.mono (by decide)) rfl (pa_cons (pv 0) pa_nil)))) (pw_or1 (pt_not (pt_chain op_le op_le (pv 1) (pv 0) (pv 2)))))) (pss_one ps_absurd) pss_nil)), ?_⟩
    refine ⟨V.int i, rfl, i, rfl, true, rfl, ?_⟩
    refine ⟨V.int lo, rfl, V.int i, rfl, ?_⟩
    refine ⟨_, _, rfl, rfl, _, rfl, ?_⟩
    rw [decide_eq_true h1, if_pos rfl]
    refine ⟨V.int hi, rfl, _, _, rfl, rfl, _, rfl, ?_⟩
    rw [decide_eq_true h2]
    exact q
/-- next_number -/
def spNext (K : PySem.W.Frag) : Sp := fun vs H Q _ => ∃ (v : V) (l : Addr) (us : List V) (E F xs : List Rat), vs = [v, .ref l] ∧ AnT K H v E F ∧ SqL K H l us ∧ FrA K H us xs ∧ E.length < 100 ∧ 0 < F.length ∧ F.length < 100 ∧ xs.length < 100 ∧ (∀ j, Qz 3900 (at0 F j)) ∧ (∀ i, Qz 3900 (at0 xs i)) ∧ (∀ j i, Qz 3900 (at0 F j * at0 xs i)) ∧ (∀ p, p ≤ xs.length → Qz 3900 (pt E F xs xs.length p)) ∧
  ∀ w H', Same H H' → FrT K H' w (pt E F xs xs.length xs.length) → Q w H'
theorem sc_next_number : FnScope ["answer", "told", "top", "under", "many", "number", "back"] ["answer", "told"] (defScope s_next_number) := ⟨rfl, rfl, rfl, by decide +kernel, rfl, by decide +kernel, by decide +kernel⟩
theorem d_next_number {aNIL : Addr} (W : FunIn K mg "next_number" s_next_number) (T : Blt mg) (hNIL : NilC K mg aNIL) (Dratio_less : Df P w K mg base "ratio_less" 34 ["one", "other"] (spR2 K (fun p q => p - q))) (Dratio_product : Df P w K mg base "ratio_product" 34 ["one", "other"] (spR2 K (fun p q => p * q))) : Df P w K mg base "next_number" 35 ["answer", "told"] (spNext K) := by
  obtain ⟨f, fd, F, hm⟩ := W
  refine ⟨f, fd, F.ok sc_next_number (fun vs H Q E h => ?_) (fun cdv A outer s H vs Q E hr h => ?_), hm, F.kp, F.binds fun _ _ _ _ _ _ us hl => match us, hl with | [_, _], _ => rfl⟩
  · obtain ⟨v, l, us, E, F, xs, rfl, _⟩ := h
    rfl
  · obtain ⟨v, l, us, E', F', xs, rfl, ⟨t, x, y, rfl, ht, hx, hy⟩, hl, hA, lE, lF0, lF, lx, zF, zx, zm, zp, q⟩ := h
    have nd := sc_next_number.nd
    refine ⟨_, (pss_cons (ps_asg (pv 0) (pg_tup rfl (pgs_cons (pg_name (i := 2) nd rfl (Or.inl rfl) (Or.inr rfl)) (pgs_cons (pg_name (i := 3) nd rfl (Or.inl rfl) (Or.inr rfl)) pgs_nil))))
        (pss_cons (ps_set (i := 4) nd rfl (Or.inl rfl) (pe_callB call_len_seq (by rfl) T.n_len (by decide +kernel) (pa_cons (pv 1) pa_nil)))
        (pss_cons (ps_set (i := 5) nd rfl (Or.inl rfl) (pe_ifExp (pt_cmpR op_lt (pv 4) (pe_callB call_len_seq (by rfl) T.n_len (by decide +kernel) (pa_cons (pv 2) pa_nil)) (nomark _)) (pe_ix ix_tup (pv 2) (pv 4) (fun _ _ => rfl)) (pe_glob (v := .ref aNIL) rfl hNIL.g rfl)))
        (pss_cons (ps_for PassesOwn.never rfl (pi_range2 (by rfl) T.n_range (pa_cons pe_int (pa_cons (pe_op op_add (pe_callB (call_min2 rfl) (by rfl) T.n_min (by decide +kernel) (pa_cons (pv 4) (pa_cons (pe_op op_sub (pe_callB call_len_seq (by rfl) T.n_len (by decide +kernel) (pa_cons (pv 3) pa_nil)) pe_int) pa_nil))) pe_int) pa_nil))) (pg_name (i := 6) nd rfl (Or.inl rfl) (Or.inr rfl)) (pss_one (ps_set (i := 5) nd rfl (Or.inl rfl) (pe_d Dratio_less (hr.mono (by decide)) rfl (pa_cons (pv 5) (pa_cons (pe_d Dratio_product (hr.mono (by decide)) rfl (pa_cons (pe_ix ix_tup (pv 3) (pv 6) (fun _ _ => rfl)) (pa_cons (pe_ix ix_list (pv 1) (pe_op op_sub (pv 4) (pv 6)) (fun _ _ => rfl)) pa_nil))) pa_nil))))))
        (pss_one (ps_ret (pv 5))))))), ?_⟩
    refine ⟨V.ref t, rfl, t, _, rfl, ht, rfl, ⟨_, _, rfl, ⟨_, _, rfl, rfl, ?_⟩⟩⟩
    have hL := hA.length
    obtain ⟨a, ue, rfl, ha, hE⟩ := hx
    obtain ⟨c, uf, rfl, hc, hF⟩ := hy
    have hLE := hE.length
    have hLF := hF.length
    refine ⟨V.ref l, rfl, l, us, rfl, Or.inl hl, ?_⟩
    generalize hg6 : gName 6 = g6
    show gName 4 _ _ _ _
    unfold gName
    dsimp only []
    refine seq_cut (fun σ' H' => ∃ v0 : V, σ' = [some (V.ref t), some (V.ref l), some (V.ref a), some (V.ref c), some (V.int (us.length : Int)), some v0, none] ∧ H' = H ∧ FrT K H v0 (at0 E' us.length)) (fun nx hnx => ?_) ?_
    · refine ⟨V.int (us.length : Int), rfl, V.ref a, rfl, a, ue, rfl, Or.inr ha, _, _, rfl, rfl, _, rfl, ?_⟩
      refine tif (fun h => ?_) (fun h => ?_)
      · have hk : us.length < ue.length := by omega
        obtain ⟨e, he, hfe⟩ := hE.get (List.getElem?_eq_getElem hk)
        refine ⟨V.ref a, rfl, V.int (us.length : Int), rfl, a, ue, (us.length : Int), _, rfl, rfl, ha, atI_nat (j := us.length) (List.getElem?_eq_getElem hk), ?_⟩
        refine hnx _ _ ⟨_, rfl, rfl, ?_⟩
        rw [at0_some he]
        exact hfe
      · refine hnx _ _ ⟨_, rfl, rfl, ?_⟩
        rw [at0_out (by omega)]
        exact hNIL.fr H
    rintro _ H1 ⟨v0, rfl, rfl, hv0⟩
    rw [hL] at hv0
    refine ⟨V.int (us.length : Int), rfl, V.ref c, rfl, c, uf, rfl, Or.inr hc, _, _, rfl, rfl, _, _, rfl, _, _, rfl, rfl, ?_⟩
    have hn : ((if ((uf.length : Int) - 1) < (us.length : Int) then ((uf.length : Int) - 1) else (us.length : Int)) + 1 - 1).toNat = min us.length (F'.length - 1) := by split <;> omega
    have hb : -2 ^ 62 ≤ (if ((uf.length : Int) - 1) < (us.length : Int) then ((uf.length : Int) - 1) else (us.length : Int)) + 1 ∧ (if ((uf.length : Int) - 1) < (us.length : Int) then ((uf.length : Int) - 1) else (us.length : Int)) + 1 < 2 ^ 62 := by constructor <;> split <;> omega
    refine ⟨1, _, rfl, ⟨by decide, by decide, hb.1, hb.2⟩, for_range (lo := 1) (D := { nx := tRet (tVar 5) { nx := fun x H' => Q V.non H', rt := Q }, rt := Q }) (fun i σ H' => ∃ (w : V) (o6 : Option V), σ = [some (V.ref t), some (V.ref l), some (V.ref a), some (V.ref c), some (V.int (us.length : Int)), some w, o6] ∧ Same H1 H' ∧ FrT K H' w (pt E' F' xs xs.length i)) ⟨v0, none, rfl, Same.refl _, ?_⟩ ?_ ?_⟩
    · have : pt E' F' xs xs.length 0 = at0 E' xs.length := by
        unfold pt
        show at0 E' xs.length - 0 = _
        grind
      rw [this]
      exact hv0
    · rintro i σ H2 hi ⟨w0, o6, rfl, s2, hw⟩
      rw [hn] at hi
      rw [← hg6]
      have t2 := same_t s2
      have hiF : i + 1 < uf.length := by omega
      have hiX : us.length - (i + 1) < us.length := by omega
      obtain ⟨ef, hef, hff⟩ := hF.get (List.getElem?_eq_getElem hiF)
      obtain ⟨ex, hex, hxx⟩ := hA.get (List.getElem?_eq_getElem hiX)
      have e1 := at0_some hef
      have e2 := at0_some hex
      refine ⟨w0, rfl, V.ref c, rfl, V.int (1 + (i : Int)), rfl, c, uf, 1 + (i : Int), _, rfl, rfl, samet_seqT t2 hc, (by rw [show (1 : Int) + (i : Int) = ((i + 1 : Nat) : Int) by omega]; exact atI_nat (j := i + 1) (List.getElem?_eq_getElem hiF)), ?_⟩
      refine ⟨V.ref l, rfl, V.int (us.length : Int), rfl, V.int (1 + (i : Int)), rfl, _, _, rfl, rfl, l, us, (us.length : Int) - (1 + (i : Int)), _, rfl, rfl, s2.seq hl, (by rw [show (us.length : Int) - (1 + (i : Int)) = ((us.length - (i + 1) : Nat) : Int) by omega]; exact atI_nat (j := us.length - (i + 1)) (List.getElem?_eq_getElem hiX)), ?_⟩
      refine ⟨_, _, ef, ex, rfl, hff.mono t2, hxx.mono t2, by rw [← e1]; exact zF _, by rw [← e2]; exact zx _, fun v3 H3 s3 hv3 => ?_⟩
      refine ⟨w0, v3, _, _, rfl, hw.mono (same_t s3), hv3, zp i (by omega), by rw [← e1, ← e2]; exact zm _ _, fun v4 H4 s4 hv4 => ?_⟩
      refine ⟨v4, some (V.int (1 + (i : Int))), rfl, s2.trans (s3.trans s4), ?_⟩
      rw [pt_succ, e1, show xs.length - (i + 1) = us.length - (i + 1) by omega, e2]
      exact hv4
    · rintro σ H2 ⟨w0, o6, rfl, s2, hw⟩
      rw [hn] at hw
      refine ⟨w0, rfl, q w0 H2 s2 ?_⟩
      have e9 : pt E' F' xs xs.length (min us.length (F'.length - 1)) = pt E' F' xs xs.length xs.length := by
        by_cases h9 : F'.length - 1 ≤ us.length
        · exact pt_end E' F' xs xs.length (by omega) (by omega)
        · rw [show min us.length (F'.length - 1) = xs.length by omega]
      rw [← e9]
      exact hw
end
end Vx
namespace Vx
open PySem PySem.Spec PyProof.Rows L2
local macro_rules | `(tactic| walk_at "cl") => `(tactic| first | assumption | exact Bz.mono (Bz.mul (by assumption) (by assumption)) (by decide) | rfl | omega | exact sz_of 0 rfl (by decide) | exact sz_of 1 rfl (by decide) | exact sz_of 2 rfl (by decide) | exact sz_of 3 rfl (by decide) | exact cmuly (by assumption) (by assumption) (by decide) | exact Bz.mono (Bz.mul (by assumption) (by assumption)) (by decide) | decide)
local macro_rules | `(tactic| walk_at "ex") => `(tactic| ((show Exists _); first | apply @Exists.intro V | apply @Exists.intro Int | apply @Exists.intro Addr | apply @Exists.intro (List V) | apply @Exists.intro Nat | apply @Exists.intro Str | apply @Exists.intro Bool | apply @Exists.intro (Option V) | apply @Exists.intro String | apply @Exists.intro Rat | apply @Exists.intro (List Rat)))
local macro_rules | `(tactic| walk_at "rd") => `(tactic| ((repeat (first | (walk_at "ex") | (apply And.intro; (focus (walk_at "cl"))))); (try dsimp only [])))
local macro_rules | `(tactic| walk_at "r0") => `(tactic| (repeat (first | (walk_at "ex") | (apply And.intro; (focus (walk_at "cl"))))))
section
variable {P : Program} {w : World} {K : PySem.W.Frag} {mg : Str → Option Value} {base : Heap}
theorem pow_lt {a b c x y : Nat} (hx : x ≤ 2 ^ a) (hy : y ≤ 2 ^ b) (h : a + b < c) : x * y < 2 ^ c := by
  refine Nat.lt_of_le_of_lt (Nat.mul_le_mul hx hy) ?_
  rw [← Nat.pow_add]
  exact Nat.pow_lt_pow_right (by decide) h
theorem upow_le {u e2 i n : Nat} (hu : u ≤ 2 ^ e2) (h : i ≤ n) : u ^ i ≤ 2 ^ (e2 * n) := by
  refine Nat.le_trans (Nat.pow_le_pow_left hu i) ?_
  rw [← Nat.pow_mul]
  exact Nat.pow_le_pow_right (by decide) (Nat.mul_le_mul_left _ h)
/-- the sizes under which the first n numbers are told -/
def NmN (d e dT eT dU eU n : Nat) : Prop := e + (eT + dU + (eU + 1) * n) + d + dT + eU * n + 10 ≤ 3890 ∧ 2 * d + dT + eU * n + 2 ≤ 3890 ∧ n ≤ 60
/-- first_numbers -/
def spNums (K : PySem.W.Frag) (tb : Addr) : Sp := fun vs H Q _ => ∃ (x : V) (n : Nat) (E F T U : List Rat) (d e l N M dT eT dU eU : Nat), vs = [x, .int (n : Int)] ∧ AnT K H x E F ∧ IsAns E F ∧ H tb = some (tabX tb) ∧ Cd d e E ∧ Cd d e F ∧ ShN d e l N M 1 ∧ E.length + F.length ≤ N ∧ E.length ≤ M ∧ F.length ≤ M ∧ M < 100 ∧ (∀ z, ev T z * ev F z = ev E z * ev U z) ∧ at0 U 0 ≠ 0 ∧ Cd dT eT T ∧ Cd dU eU U ∧ NmN d e dT eT dU eU n ∧
  ∀ v xs H', Same H H' → RwT K H' v xs → xs.length = n → Ser E F xs → Ser T U xs → Qs 3890 xs → Q v H'
theorem sc_first_numbers : FnScope ["answer", "number", "told", "_"] ["answer", "number"] (defScope s_first_numbers) := ⟨rfl, rfl, rfl, by decide +kernel, rfl, by decide +kernel, by decide +kernel⟩
theorem d_first_numbers {tb : Addr} {tM : Tok} (W : FunIn K mg "first_numbers" s_first_numbers) (T : Blt mg) (hMost : mg "MOST_NUMBERS" = some (.int 60 tM)) (Dcheck_answer : Df P w K mg base "check_answer" 39 ["given"] (spCkAn K tb)) (Dcheck_number : Df P w K mg base "check_number" 34 ["given", "low", "high"] spCkNum) (Dnext_number : Df P w K mg base "next_number" 35 ["answer", "told"] (spNext K)) : Dk P w K mg base "first_numbers" 40 ["answer", "number"] "number" "answer" (spNums K tb) := by
  obtain ⟨f, fd, F, hm⟩ := W
  refine ⟨f, fd, F.ok sc_first_numbers (fun vs H Q E h => ?_) (fun cdv A outer s H vs Q E hr h => ?_), hm, F.kp, F.binds fun _ _ _ _ _ _ us hl => match us, hl with | [_, _], _ => rfl, ?_⟩
  · obtain ⟨x, n, E, F, T, U, d, e, l, N, M, dT, eT, dU, eU, rfl, _⟩ := h
    rfl
  · obtain ⟨x, n, E', F', T', U', d, e, l, N, M, dT, eT, dU, eU, rfl, hx, A1, htb, cE, cF, nums, lN, lE, lF, hM, hcr, u0, cT, cU, ⟨b1, b2, b3⟩, q⟩ := h
    have nd := sc_first_numbers.nd
    have F0 : at0 F' 0 ≠ 0 := by rw [A1.h0]; decide
    have lF0 : 0 < F'.length := List.length_pos_iff.mpr A1.ne
    obtain ⟨D1, D2, u, p1, h1, p2, h2, pu, hu, o1, o2, hser⟩ := ser_ov cT cU u0
    obtain ⟨DE, pE, hE, oE⟩ := cd_ovn cE
    obtain ⟨DF, pF, hF, oF⟩ := cd_ovn cF
    have zF : ∀ j, Qz 3900 (at0 F' j) := fun j => (oF j).qz pF (Nat.lt_of_le_of_lt hF (Nat.pow_lt_pow_right (by decide) (by omega))) (Nat.pow_lt_pow_right (by decide) (by omega))
    generalize hb : eT + dU + (eU + 1) * n = b at b1
    have key : ∀ xs : List Rat, Ser E' F' xs → xs.length ≤ n → (∀ i, i < xs.length → OvN (D1 * u ^ (i + 1)) (2 ^ b) (at0 xs i)) := fun xs S hl i hi => by
      refine (hser xs (S.cross F0 hcr) i hi).mono (Nat.pow_le_pow_right (by decide) ?_)
      have := Nat.mul_le_mul_left (eU + 1) (show i ≤ n by omega)
      omega
    have zx' : ∀ xs : List Rat, Ser E' F' xs → xs.length ≤ n → ∀ i, Qz 3889 (at0 xs i) := fun xs S hl i => by
      by_cases hi : i < xs.length
      · exact (key xs S hl i hi).qz (Nat.mul_pos p1 (Nat.pow_pos pu)) (pow_lt h1 (upow_le hu (show i + 1 ≤ n by omega)) (by omega)) (Nat.pow_lt_pow_right (by decide) (by omega))
      · rw [at0_out (by omega)]
        exact qz0 (by decide)
    refine ⟨_, (pss_cons (ps_expr (pe_d Dcheck_answer (hr.mono (by decide)) rfl (pa_cons (pv 0) pa_nil)))
        (pss_cons (ps_expr (pe_d Dcheck_number (hr.mono (by decide)) rfl (pa_cons (pv 1) (pa_cons pe_int (pa_cons (pe_glob (v := .int 60) rfl hMost ⟨_, rfl⟩) pa_nil)))))
        (pss_cons (ps_set (i := 2) nd rfl (Or.inl rfl) (pe_lst pa_nil))
        (pss_cons (ps_for PassesOwn.never rfl (pi_range1 rfl T.n_range (pa_cons (pv 1) pa_nil)) (pg_name (i := 3) nd rfl (Or.inl rfl) (Or.inr rfl)) (pss_one (ps_expr (pe_bm PySem.F.plainAttrs_list PySem.F.slot_list_append PySem.F.type_list_append mt_append (pv 2) (pa_cons (pe_d Dnext_number (hr.mono (by decide)) rfl (pa_cons (pv 0) (pa_cons (pv 2) pa_nil))) pa_nil)))))
        (pss_one (ps_ret (pe_callTy call_tuple_of (by rfl) T.n_tuple (by decide +kernel) (pa_cons (pv 2) pa_nil)))))))), ?_⟩
    refine ⟨x, rfl, x, E', F', d, e, l, N, M, rfl, hx, A1, htb, cE, cF, nums, lN, lE, lF, fun H1 s1 => ?_⟩
    have hx1 := hx.mono (same_t s1)
    refine ⟨V.int (n : Int), rfl, (n : Int), 0, 60, rfl, by omega, by omega, ?_⟩
    refine ⟨Nat.zero_le _, fun p hp => ?_⟩
    have s2 := same_new (o := .lst []) hp
    have e2 : upd H1 p (.lst []) p = some (.lst []) := upd_same
    generalize upd H1 p (.lst []) = H2 at s2 e2
    refine ⟨V.int (n : Int), rfl, (n : Int), rfl, by omega, by omega, for_range (lo := 0) (n := n) (D := { nx := tRet (tCB (fun xs H Q => ∃ p ys, xs = [V.ref p] ∧ ((SqL K H p ys ∧ ∀ (l : Addr), H l = none → Q (V.ref l) (upd H l (HO.tup ys))) ∨ SqT K H p ys ∧ Q (V.ref p) H)) (tCons (tVar 2) tNil)) { nx := fun x H' => Q V.non H', rt := Q }, rt := Q }) (fun i σ H' => ∃ (us : List V) (xs : List Rat) (o3 : Option V), σ = [some x, some (.int (n : Int)), some (.ref p), o3] ∧ Same H1 H' ∧ H' p = some (.lst us) ∧ FrA K H' us xs ∧ xs.length = i ∧ Ser E' F' xs) ⟨[], [], none, rfl, s2, e2, .nil, rfl, fun k hk => absurd hk (Nat.not_lt_zero _)⟩ ?_ ?_⟩
    · rintro i σ H3 hi ⟨us, xs, o3, rfl, s3, e3, hA, hl, S⟩
      have s13 := s3
      have hx3 := hx1.mono (same_t s3)
      have kx := key xs S (by omega)
      have zx := zx' xs S (by omega)
      have bitsk : ∀ k, k ≤ n → eU * k ≤ eU * n := fun k hk => Nat.mul_le_mul_left _ hk
      have zm : ∀ j i, Qz 3900 (at0 F' j * at0 xs i) := fun j i => by
        by_cases hi2 : i < xs.length
        · refine ((oF j).mul (kx i hi2)).qz (Nat.mul_pos pF (Nat.mul_pos p1 (Nat.pow_pos pu))) ?_ ?_
          · refine pow_lt hF (b := dT + eU * n) ?_ (by omega)
            have h9 := Nat.mul_le_mul h1 (upow_le hu (show i + 1 ≤ n by omega))
            rwa [← Nat.pow_add 2] at h9
          · exact pow_lt (Nat.le_refl _) (Nat.le_refl _) (by omega)
        · rw [at0_out (l := xs) (by omega), Rat.mul_zero]
          exact qz0 (by decide)
      have zp : ∀ p, p ≤ xs.length → Qz 3900 (pt E' F' xs xs.length p) := fun p hp => by
        have h9 := ptF_ov (c := e + b + d + dT + eU * n) (oE xs.length) oF hE hF h1 hu kx (by have := bitsk xs.length (by omega); omega) (by have := bitsk xs.length (by omega); omega) p hp
        refine h9.qz (Nat.mul_pos (Nat.mul_pos (Nat.mul_pos pE pF) p1) (Nat.pow_pos pu)) ?_ ?_
        · refine pow_lt (a := d + d + dT) ?_ (upow_le hu (show xs.length ≤ n by omega)) (by omega)
          rw [Nat.pow_add, Nat.pow_add]
          exact Nat.mul_le_mul (Nat.mul_le_mul hE hF) h1
        · exact pow_lt (a := 6) (show p + 1 ≤ 64 by omega) (Nat.le_refl _) (by omega)
      refine ⟨V.ref p, rfl, Or.inl ⟨rfl, _, SqL.of e3⟩, x, rfl, V.ref p, rfl, x, p, us, E', F', xs, rfl, hx3, SqL.of e3, hA, by omega, lF0, by omega, by omega, zF, fun i => (zx i).mono (by decide), zm, zp, fun w H4 s4 hw => ?_⟩
      have hL := hA.length
      have e4 := s4 _ _ e3
      refine ⟨p, us, w, rfl, rfl, e4, by rw [sizeLine_eq]; omega, ?_⟩
      have s14 := s3.trans s4
      have s5 : Same H1 (upd H4 p (.lst (us ++ [w]))) := fun c o e => by rw [upd_ne (ne_of_none e hp)]; exact s14 _ _ e
      refine ⟨us ++ [w], xs ++ [pt E' F' xs xs.length xs.length], _, rfl, s5, upd_same, ?_, by rw [List.length_append, hl]; rfl, ser_snoc S F0 (by rw [A1.h0]; grind)⟩
      exact (fra_mono ((same_t s4).trans (samet_lst e4)) hA).append (.cons (hw.mono (samet_lst e4)) .nil)
    · rintro σ H3 ⟨us, xs, o3, rfl, s3, e3, hA, hl, S⟩
      have hL := hA.length
      refine ⟨V.ref p, rfl, p, us, rfl, Or.inl ⟨SqL.of e3, fun l hl2 => ?_⟩⟩
      have s4 := same_new (o := .tup us) hl2
      refine q _ xs _ (s1.trans (s3.trans s4)) ⟨l, us, rfl, SqT.of upd_same, fra_mono (same_t s4) hA⟩ hl S (S.cross F0 hcr) fun c hc => ?_
      obtain ⟨i, hi, e⟩ := List.getElem_of_mem hc
      have h8 := zx' xs S (by omega) i
      rw [at0_some (List.getElem?_eq_getElem hi), e] at h8
      exact h8.mono (by decide)
  · obtain ⟨oc, od, kV, doc, pm, an, cdv, ct, osl, rfl, lk, hcd⟩ := F.ex
    exact fun s u v => BindsTo.of_eq (by first | rfl | with_unfolding_all rfl)
end
end Vx
namespace Vx
open PySem PySem.Spec PyProof.Rows L2
local macro_rules | `(tactic| walk_at "cl") => `(tactic| first | assumption | exact Bz.mono (Bz.mul (by assumption) (by assumption)) (by decide) | rfl | omega | exact sz_of 0 rfl (by decide) | exact sz_of 1 rfl (by decide) | exact sz_of 2 rfl (by decide) | exact sz_of 3 rfl (by decide) | exact cmulx (by assumption) (by assumption) (by decide) | exact Bz.mono (Bz.mul (by assumption) (by assumption)) (by decide) | decide)
local macro_rules | `(tactic| walk_at "ex") => `(tactic| ((show Exists _); first | apply @Exists.intro V | apply @Exists.intro Int | apply @Exists.intro Addr | apply @Exists.intro (List V) | apply @Exists.intro Nat | apply @Exists.intro Str | apply @Exists.intro Bool | apply @Exists.intro (Option V) | apply @Exists.intro String | apply @Exists.intro Rat | apply @Exists.intro (List Rat)))
local macro_rules | `(tactic| walk_at "rd") => `(tactic| ((repeat (first | (walk_at "ex") | (apply And.intro; (focus (walk_at "cl"))))); (try dsimp only [])))
local macro_rules | `(tactic| walk_at "r0") => `(tactic| (repeat (first | (walk_at "ex") | (apply And.intro; (focus (walk_at "cl"))))))
section
variable {P : Program} {w : World} {K : PySem.W.Frag} {mg : Str → Option Value} {base : Heap}
/-- _law_is_whole -/
def spLWhole (K : PySem.W.Frag) : Sp := fun vs H Q _ => ∃ i : Int, vs = [.int i] ∧ Q (.bl true) H
theorem sc__law_is_whole : FnScope ["value"] ["value"] (defScope s__law_is_whole) := ⟨rfl, rfl, rfl, by decide +kernel, rfl, by decide +kernel, by decide +kernel⟩
theorem d__law_is_whole (W : FunIn K mg "_law_is_whole" s__law_is_whole) (T : Blt mg) (nb : mg "bool" = none) : Df P w K mg base "_law_is_whole" 33 ["value"] (spLWhole K) := by
  obtain ⟨f, fd, F, hm⟩ := W
  refine ⟨f, fd, F.ok sc__law_is_whole (fun vs H Q E h => ?_) (fun cdv A outer s H vs Q E hr h => ?_), hm, F.kp, F.binds fun _ _ _ _ _ _ us hl => match us, hl with | [_], _ => rfl⟩
  · obtain ⟨i, rfl, _⟩ := h
    rfl
  · obtain ⟨i, rfl, q⟩ := h
    refine ⟨_, (pss_one (ps_ret (pe_and (pe_callB call_isiInt (by rfl) T.n_isinstance (by decide +kernel) (pa_cons (pv 0) (pa_cons (pe_bltn (by rfl) T.n_int (by rfl) (v := .ty "int") rfl) pa_nil))) (pe_one (pe_not (pe_callB call_isiBool (by rfl) T.n_isinstance (by decide +kernel) (pa_cons (pv 0) (pa_cons (pe_bltn (by rfl) nb (by rfl) (v := .ty "bool") rfl) pa_nil)))))))), ?_⟩
    walk_at "rd"
    exact q
/-- _law_is_fraction -/
def spLIsFr (K : PySem.W.Frag) : Sp := fun vs H Q _ => ∃ (x : V) (q : Rat), vs = [x] ∧ FrT K H x q ∧ Qz 3900 q ∧ ∀ H', Same H H' → Q (.bl true) H'
theorem sc__law_is_fraction : FnScope ["value"] ["value"] (defScope s__law_is_fraction) := ⟨rfl, rfl, rfl, by decide +kernel, rfl, by decide +kernel, by decide +kernel⟩
theorem d__law_is_fraction (W : FunIn K mg "_law_is_fraction" s__law_is_fraction) (T : Blt mg) (D_law_is_whole : Df P w K mg base "_law_is_whole" 33 ["value"] (spLWhole K)) (D_law_lowest : Df P w K mg base "_law_lowest" 33 ["n", "m"] (spLow K)) : Df P w K mg base "_law_is_fraction" 34 ["value"] (spLIsFr K) := by
  obtain ⟨f, fd, F, hm⟩ := W
  refine ⟨f, fd, F.ok sc__law_is_fraction (fun vs H Q E h => ?_) (fun cdv A outer s H vs Q E hr h => ?_), hm, F.kp, F.binds fun _ _ _ _ _ _ us hl => match us, hl with | [_], _ => rfl⟩
  · obtain ⟨x, q, rfl, _⟩ := h
    rfl
  · obtain ⟨x, r, rfl, ⟨a, rfl, ha⟩, zr, q⟩ := h
    refine ⟨_, (pss_cons (ps_if (PW.pt (pw_or (pt_not (pt_val (pe_callB call_isiTup (by rfl) T.n_isinstance (by decide +kernel) (pa_cons (pv 0) (pa_cons (pe_bltn (by rfl) T.n_tuple (by rfl) (v := .ty "tuple") rfl) pa_nil))))) (pw_or (pt_cmpR op_ne (pe_callB call_len_seq (by rfl) T.n_len (by decide +kernel) (pa_cons (pv 0) pa_nil)) pe_int (nomark _)) (pw_or (pt_not (pt_val (pe_d D_law_is_whole (hr.mono (by decide)) rfl (pa_cons (pe_ix ix_tup (pv 0) pe_int (fun _ _ => rfl)) pa_nil)))) (pw_or1 (pt_not (pt_val (pe_d D_law_is_whole (hr.mono (by decide)) rfl (pa_cons (pe_ix ix_tup (pv 0) pe_int (fun _ _ => rfl)) pa_nil))))))))) (pss_one (ps_ret pe_bl)) pss_nil)
        (pss_one (ps_ret (pe_and (pe_cmpR op_gt (pe_ix ix_tup (pv 0) pe_int (fun _ _ => rfl)) pe_int (nomark _)) (pe_one (pe_cmpR (op_eqD (hu64 hr)) (pe_d D_law_lowest (hr.mono (by decide)) rfl (pa_cons (pe_ix ix_tup (pv 0) pe_int (fun _ _ => rfl)) (pa_cons (pe_ix ix_tup (pv 0) pe_int (fun _ _ => rfl)) pa_nil))) (pv 0) (nomark _))))))), ?_⟩
    have hd : (0 : Int) < (r.den : Int) := by have := r.den_pos; omega
    have hdz : Bz 8000 (r.den : Int) := zr.dd.mono (by decide)
    have fin : ∀ v H', Same H H' → FrT K H' v (Rat.divInt r.num r.den) → rEqD K v (.ref a) H' Q := fun v H' s1 hv => by
      refine rEqD_fr hv ⟨a, rfl, same_seqT s1 ha⟩ ?_
      rw [decide_eq_true (Rat.num_divInt_den r)]
      exact q H' s1
    have ha' : SqL K H a [.int r.num, .int (r.den : Int)] ∨ SqT K H a [.int r.num, .int (r.den : Int)] := Or.inr ha
    walk_at "rd"
    rw [decide_eq_true hd, if_pos rfl]
    walk_at "rd"
    intro v H' s1 hv
    exact ⟨_, rfl, fin v H' s1 hv⟩
/-- _law_is_row -/
def spLIsRow (K : PySem.W.Frag) : Sp := fun vs H Q _ => ∃ (x : V) (qs : List Rat), vs = [x] ∧ RwT K H x qs ∧ Tr qs ∧ Qs 3900 qs ∧ qs.length < 1000 ∧ ∀ H', Same H H' → Q (.bl true) H'
theorem sc__law_is_row : FnScope ["value", "each"] ["value"] (defScope s__law_is_row) := ⟨rfl, rfl, rfl, by decide +kernel, rfl, by decide +kernel, by decide +kernel⟩
theorem d__law_is_row (W : FunIn K mg "_law_is_row" s__law_is_row) (T : Blt mg) (D_law_is_fraction : Df P w K mg base "_law_is_fraction" 34 ["value"] (spLIsFr K)) : Df P w K mg base "_law_is_row" 35 ["value"] (spLIsRow K) := by
  obtain ⟨f, fd, F, hm⟩ := W
  refine ⟨f, fd, F.ok sc__law_is_row (fun vs H Q E h => ?_) (fun cdv A outer s H vs Q E hr h => ?_), hm, F.kp, F.binds fun _ _ _ _ _ _ us hl => match us, hl with | [_], _ => rfl⟩
  · obtain ⟨x, qs, rfl, _⟩ := h
    rfl
  · obtain ⟨x, qs, rfl, ⟨a, us, rfl, ha, hA⟩, ht, zq, lq, q⟩ := h
    have nd := sc__law_is_row.nd
    have hL := hA.length
    have hrow : RwT K H (.ref a) qs := ⟨a, us, rfl, ha, hA⟩
    have ha' : SqL K H a us ∨ SqT K H a us := Or.inr ha
    refine ⟨_, (pss_cons (ps_if (PW.pt (pw_or (pt_not (pt_val (pe_callB call_isiTup (by rfl) T.n_isinstance (by decide +kernel) (pa_cons (pv 0) (pa_cons (pe_bltn (by rfl) T.n_tuple (by rfl) (v := .ty "tuple") rfl) pa_nil))))) (pw_or1 (pt_cmpR (op_neD (hu64 hr)) (pe_lc (own := [("each", 1)]) rfl nd (pi_tup (pv 0)) (blkOk_by (own := [("each", 1)]) (N := ["value", "each"]) (sc := defScope s__law_is_row) (by decide +kernel)) (fun _ _ _ _ _ => (pg_name (i := 1) nd rfl (Or.inl rfl) (Or.inr rfl))) (fun _ _ _ _ _ => (pts_one (pt_not (pt_val (pe_d D_law_is_fraction (hr.mono (by decide)) rfl (pa_cons (pv 1) pa_nil)))))) (fun _ _ _ _ _ => (pv 1))) (pe_lst pa_nil) (nomark _))))) (pss_one (ps_ret pe_bl)) pss_nil)
        (pss_one (ps_ret (pe_or (pe_cmpR (op_eqD (hu64 hr)) (pv 0) (pe_tup pa_nil) (nomark _)) (pe_one (pe_cmpR op_ne (pe_ix ix_tup (pe_ix ix_tup (pv 0) (pe_op op_sub (pe_callB call_len_seq (by rfl) T.n_len (by decide +kernel) (pa_cons (pv 0) pa_nil)) pe_int) (fun _ _ => rfl)) pe_int (fun _ _ => rfl)) pe_int (nomark _))))))), ?_⟩
    walk_at "rd"
    refine ⟨⟨us, ha⟩, fun D hD => lc_it (walk_tup (K := K) (a := a) (xs := us)) (fun i H1 => Same H H1 ∧ H1 D = some (.lst [])) ⟨same_new hD, upd_same⟩ (fun i H1 _ p => same_seqT p.1 ha) ?_ ?_⟩
    · rintro i u H1 H2 hi ⟨s1, e1⟩ ⟨rfl, hu⟩
      obtain ⟨r, hr1, hfr⟩ := hA.get hu
      have hfr1 := hfr.mono (same_t s1)
      have zr := zq r (List.mem_of_getElem? hr1)
      walk_at "rd"
      exact fun H3 s3 => ⟨true, rfl, s1.trans s3, s3 _ _ e1⟩
    rintro H1 ⟨s1, e1⟩
    walk_at "rd"
    intro p hp
    have s2 := same_new (o := .lst []) hp
    have e2 : upd H1 p (.lst []) p = some (.lst []) := upd_same
    have e3 := s2 _ _ e1
    have s3 := s1.trans s2
    generalize upd H1 p (.lst []) = H2 at s2 e2 e3 s3
    refine ⟨.list [], .list [], Dp.lst (SqL.of e3) .nil, Dp.lst (SqL.of e2) .nil, rfl, rfl, false, rfl, ?_⟩
    rw [if_neg (by decide)]
    walk_at "rd"
    intro p2 hp2
    have s4 := same_new (o := .tup []) hp2
    have e4 : SqT K (upd H2 p2 (.tup [])) p2 [] := SqT.of upd_same
    have s5 := s3.trans s4
    generalize upd H2 p2 (.tup []) = H3 at s4 e4 s5
    refine rEqD_rw (hrow.mono (same_t s5)) (rwt_nil e4) ⟨_, rfl, ?_⟩
    refine tif (fun hq => q H3 s5) (fun hq => ?_)
    obtain ⟨r, hr1⟩ : ∃ r, qs[qs.length - 1]? = some r := ⟨_, List.getElem?_eq_getElem (by have := List.length_pos_iff.mpr hq; omega)⟩
    obtain ⟨u, hu, hfr⟩ := hA.get' hr1
    have hpos : 0 < qs.length := List.length_pos_iff.mpr hq
    have hr0 : r ≠ 0 := by
      have h1 := ht hq
      rw [List.getLast_eq_getElem] at h1
      rw [List.getElem?_eq_getElem (by omega)] at hr1
      rw [← Option.some.inj hr1]
      exact h1
    have hat : atI us ((us.length : Int) - 1) = some u := by
      have : ((us.length : Int) - 1) = ((us.length - 1 : Nat) : Int) := by omega
      rw [this]
      exact atI_nat (by rw [hL]; exact hu)
    have ha3 := same_seqT s5 ha
    have ha3' : SqL K H3 a us ∨ SqT K H3 a us := Or.inr ha3
    obtain ⟨e, rfl, he⟩ := hfr.mono (same_t s5)
    walk_at "rd"
    rw [decide_eq_false (fun z => hr0 (Rat.num_eq_zero.mp (V.int.inj z)))]
    exact q H3 s5
end
section
variable {P : Program} {w : World} {K : PySem.W.Frag} {mg : Str → Option Value} {base : Heap}
/-- _law_later, of a row that is not nought -/
def spLater (K : PySem.W.Frag) : Sp := fun vs H Q _ => ∃ (x : V) (qs : List Rat) (k : Nat), vs = [x, .int (k : Int)] ∧ RwT K H x qs ∧ qs ≠ [] ∧ qs.length < 900 ∧ k ≤ 10 ∧ ∀ v H', Same H H' → RwT K H' v (List.replicate k 0 ++ qs) → Q v H'
theorem sc__law_later : FnScope ["row", "by"] ["row", "by"] (defScope s__law_later) := ⟨rfl, rfl, rfl, by decide +kernel, rfl, by decide +kernel, by decide +kernel⟩
theorem d__law_later (W : FunIn K mg "_law_later" s__law_later) : Df P w K mg base "_law_later" 33 ["row", "by"] (spLater K) := by
  obtain ⟨f, fd, F, hm⟩ := W
  refine ⟨f, fd, F.ok sc__law_later (fun vs H Q E h => ?_) (fun cdv A outer s H vs Q E hr h => ?_), hm, F.kp, F.binds fun _ _ _ _ _ _ us hl => match us, hl with | [_, _], _ => rfl⟩
  · obtain ⟨x, qs, k, rfl, _⟩ := h
    rfl
  · obtain ⟨x, qs, k, rfl, hx, nq, lq, hk, q⟩ := h
    refine ⟨_, (pss_one (ps_ret (pe_ifExp (pt_cmpR (op_neD (hu64 hr)) (pv 0) (pe_tup pa_nil) (nomark _)) (pe_op op_catA (pe_op op_repA (pe_tup (pa_cons (pe_tup (pa_cons pe_int (pa_cons pe_int pa_nil))) pa_nil)) (pv 1)) (pv 0)) (pe_tup pa_nil)))), ?_⟩
    refine ⟨x, rfl, sz_of 0 rfl (by decide), fun p0 hp0 => ?_⟩
    have s0 := same_new (o := .tup []) hp0
    have q0 : SqT K (upd H p0 (.tup [])) p0 [] := SqT.of upd_same
    generalize upd H p0 (.tup []) = H0 at s0 q0
    refine rNeD_rw (hx.mono (same_t s0)) (rwt_nil q0) ⟨true, congrArg V.bl (by rw [decide_eq_false nq]; rfl), ?_⟩
    refine if_tt ?_
    refine ⟨sz_of 2 rfl (by decide), fun p1 hp1 => ?_⟩
    have s1 := same_new (o := .tup [V.int 0, V.int 1]) hp1
    have q1 : SqT K (upd H0 p1 (.tup [V.int 0, V.int 1])) p1 [V.int 0, V.int 1] := SqT.of upd_same
    generalize upd H0 p1 (.tup [V.int 0, V.int 1]) = H1 at s1 q1
    refine ⟨sz_of 1 rfl (by decide), fun p2 hp2 => ?_⟩
    have s2 := same_new (o := .tup [V.ref p1]) hp2
    have q2 : SqT K (upd H1 p2 (.tup [V.ref p1])) p2 [V.ref p1] := SqT.of upd_same
    have s12 := (s0.trans s1).trans s2
    have f1 : FrT K (upd H1 p2 (.tup [V.ref p1])) (.ref p1) 0 := ⟨p1, rfl, same_seqT s2 q1⟩
    generalize upd H1 p2 (.tup [V.ref p1]) = H2 at s2 q2 s12 f1
    have fin : ∀ v3 H3, Same H2 H3 → RwT K H3 v3 (List.replicate k 0) → rCatA K v3 x H3 Q := fun v3 H3 s3 hv3 => by
      refine rCatA_rw hv3 (hx.mono (same_t (s12.trans s3))) (by rw [List.length_replicate]; omega) fun v4 H4 s4 hv4 => ?_
      exact q v4 H4 ((s12.trans s3).trans s4) hv4
    have ef : ∀ j : Nat, (List.replicate j [V.ref p1]).flatten = List.replicate j (V.ref p1) := fun j => by
      induction j with
      | zero => rfl
      | succ j ih => rw [List.replicate_succ, List.flatten_cons, ih, List.replicate_succ]; rfl
    have hA : ∀ (H3 : Hp) (j : Nat), Same H2 H3 → FrA K H3 (List.replicate j (V.ref p1)) (List.replicate j 0) := fun H3 j s3 => by
      induction j with
      | zero => exact .nil
      | succ j ih => exact .cons (f1.mono (same_t s3)) ih
    refine ⟨V.int (k : Int), rfl, p2, (k : Int), _, rfl, rfl, q2, (by simp), by omega, by omega, (by show 1 ≤ 1000; decide), fun hk1 => ?_, fun hk1 p3 hp3 => ?_⟩
    · have : k = 1 := by omega
      subst this
      exact ⟨x, rfl, fin _ _ (Same.refl _) ⟨p2, _, rfl, q2, hA _ 1 (Same.refl _)⟩⟩
    · rw [Int.toNat_natCast, ef]
      have s3 := same_new (o := .tup (List.replicate k (V.ref p1))) hp3
      exact ⟨x, rfl, fin _ _ s3 ⟨p3, _, rfl, SqT.of upd_same, hA _ k s3⟩⟩
/-- _law_full -/
def spFull (K : PySem.W.Frag) : Sp := fun vs H Q _ => ∃ (a : Addr) (m : Nat), vs = [.ref a, .int (m : Int)] ∧ RlAt a H ∧ 0 < m ∧ m < 100 ∧ ∀ v r H', RlAt a H' → But a H H' → RwT K H' v r → Tr r → r ≠ [] → Qsd r → r.length ≤ m → Q v H'
end
end Vx
namespace Vx
open PySem PySem.Spec PyProof.Rows L2
theorem OvN.add {D C C' : Nat} {x y : Rat} (h : OvN D C x) (k : OvN D C' y) : OvN D (C + C') (x + y) := by
  obtain ⟨n, e, g⟩ := h
  obtain ⟨m, f, g2⟩ := k
  refine ⟨n + m, by push_cast; grind, by omega⟩
theorem cd_add {a b c d e f : Nat} {p q r : List Rat} (hp : Cd a b p) (hq : Cd c d q) (h : ∀ z, ev r z = ev p z + ev q z) (h1 : a + c ≤ e) (h2 : b + c < f) (h3 : d + a < f) : Cd e f r := by
  obtain ⟨D1, p1, b1, o1⟩ := cd_ovn hp
  obtain ⟨D2, p2, b2, o2⟩ := cd_ovn hq
  refine ⟨D1 * D2, Nat.mul_pos p1 p2, ?_, fun x hx => ?_⟩
  · refine Nat.le_trans (Nat.mul_le_mul b1 b2) ?_
    rw [← Nat.pow_add]
    exact Nat.pow_le_pow_right (by decide) h1
  obtain ⟨i, hi, e1⟩ := List.getElem_of_mem hx
  have e2 : at0 r i = x := at0_some (by rw [List.getElem?_eq_getElem hi, e1])
  have e3 := ev_ats (p := r) (q := ladd p q) (fun z => by rw [h, ev_ladd]) i
  rw [at0_ladd, e2] at e3
  have h4 := (o2 i).up (K := D1)
  rw [Nat.mul_comm D2 D1] at h4
  have h5 := ((o1 i).up (K := D2)).add h4
  rw [← e3] at h5
  refine h5.mono ?_
  have h6 : 2 ^ b * D2 ≤ 2 ^ (b + c) := by rw [Nat.pow_add]; exact Nat.mul_le_mul_left _ b2
  have h7 : 2 ^ d * D1 ≤ 2 ^ (d + a) := by rw [Nat.pow_add]; exact Nat.mul_le_mul_left _ b1
  have h8 : 2 ^ (b + c) * 2 ≤ 2 ^ f := by rw [← Nat.pow_succ]; exact Nat.pow_le_pow_right (by decide) h2
  have h9 : 2 ^ (d + a) * 2 ≤ 2 ^ f := by rw [← Nat.pow_succ]; exact Nat.pow_le_pow_right (by decide) h3
  omega
theorem at0_rep (k : Nat) (l : List Rat) : at0 (List.replicate k 0 ++ l) 0 = if k = 0 then at0 l 0 else 0 := by
  cases k with
  | zero => rfl
  | succ k => rfl
theorem at0_ev {r p q : List Rat} (h : ∀ z, ev r z = ev p z + ev q z) (i : Nat) : at0 r i = at0 p i + at0 q i := by
  rw [ev_ats (p := r) (q := ladd p q) (fun z => by rw [h, ev_ladd]) i, at0_ladd]
end Vx
namespace Vx
open PySem PySem.Spec PyProof.Rows L2
local macro_rules | `(tactic| walk_at "cl") => `(tactic| first | assumption | exact Bz.mono (Bz.mul (by assumption) (by assumption)) (by decide) | rfl | omega | exact sz_of 0 rfl (by decide) | exact sz_of 1 rfl (by decide) | exact sz_of 2 rfl (by decide) | exact sz_of 3 rfl (by decide) | exact cmuly (by assumption) (by assumption) (by decide) | exact Bz.mono (Bz.mul (by assumption) (by assumption)) (by decide) | decide)
local macro_rules | `(tactic| walk_at "ex") => `(tactic| ((show Exists _); first | apply @Exists.intro V | apply @Exists.intro Int | apply @Exists.intro Addr | apply @Exists.intro (List V) | apply @Exists.intro Nat | apply @Exists.intro Str | apply @Exists.intro Bool | apply @Exists.intro (Option V) | apply @Exists.intro String | apply @Exists.intro Rat | apply @Exists.intro (List Rat)))
local macro_rules | `(tactic| walk_at "rd") => `(tactic| ((repeat (first | (walk_at "ex") | (apply And.intro; (focus (walk_at "cl"))))); (try dsimp only [])))
local macro_rules | `(tactic| walk_at "r0") => `(tactic| (repeat (first | (walk_at "ex") | (apply And.intro; (focus (walk_at "cl"))))))
section
variable {P : Program} {w : World} {K : PySem.W.Frag} {mg : Str → Option Value} {base : Heap}
/-- _law_led -/
def spLedD (K : PySem.W.Frag) : Sp := fun vs H Q _ => ∃ (a : Addr) (m : Nat), vs = [.ref a, .int (m : Int)] ∧ RlAt a H ∧ m < 100 ∧ ∀ v r H', RlAt a H' → But a H H' → RwT K H' v r → Tr r → Qsd r → r.length ≤ m + 1 → at0 r 0 = 1 → Q v H'
theorem sc__law_led : FnScope ["reel", "most"] ["reel", "most"] (defScope s__law_led) := ⟨rfl, rfl, rfl, by decide +kernel, rfl, by decide +kernel, by decide +kernel⟩
theorem d__law_led (W : FunIn K mg "_law_led" s__law_led) (D_law_drawn : Df P w K mg base "_law_drawn" 36 ["reel", "most"] (spDrawn K)) (D_law_trim : Df P w K mg base "_law_trim" 33 ["numbers"] (spTrimT K)) : Df P w K mg base "_law_led" 37 ["reel", "most"] (spLedD K) := by
  obtain ⟨f, fd, F, hm⟩ := W
  refine ⟨f, fd, F.ok sc__law_led (fun vs H Q E h => ?_) (fun cdv A outer s H vs Q E hr h => ?_), hm, F.kp, F.binds fun _ _ _ _ _ _ us hl => match us, hl with | [_, _], _ => rfl⟩
  · obtain ⟨a, m, rfl, _⟩ := h
    rfl
  · obtain ⟨a, m, rfl, hR, hm, q⟩ := h
    refine ⟨_, (pss_one (ps_ret (pe_d D_law_trim (hr.mono (by decide)) rfl (pa_cons (pe_op op_catA (pe_tup (pa_cons (pe_tup (pa_cons pe_int (pa_cons pe_int pa_nil))) pa_nil)) (pe_d D_law_drawn (hr.mono (by decide)) rfl (pa_cons (pv 0) (pa_cons (pv 1) pa_nil)))) pa_nil)))), ?_⟩
    refine ⟨sz_of 2 rfl (by decide), fun p1 hp1 => ?_⟩
    have s1 := same_new (o := .tup [V.int 1, V.int 1]) hp1
    have q1 : SqT K (upd H p1 (.tup [V.int 1, V.int 1])) p1 [V.int 1, V.int 1] := SqT.of upd_same
    generalize upd H p1 (.tup [V.int 1, V.int 1]) = H1 at s1 q1
    refine ⟨sz_of 1 rfl (by decide), fun p2 hp2 => ?_⟩
    have s2 := same_new (o := .tup [V.ref p1]) hp2
    have q2 : SqT K (upd H1 p2 (.tup [V.ref p1])) p2 [V.ref p1] := SqT.of upd_same
    have s12 := s1.trans s2
    have f1 : RwT K (upd H1 p2 (.tup [V.ref p1])) (.ref p2) [1] := ⟨p2, _, rfl, q2, Al.one ⟨p1, rfl, same_seqT s2 q1⟩⟩
    generalize upd H1 p2 (.tup [V.ref p1]) = H2 at s2 q2 s12 f1
    have hR2 := same_rl hR s12
    refine ⟨V.ref a, rfl, V.int (m : Int), rfl, a, m, rfl, hR2, hm, fun v3 r3 H3 hR3 b3 hv3 ht3 hq3 hl3 => ?_⟩
    have st3 := but_samet hR2 b3
    refine rCatA_rw (f1.mono st3) hv3 (by show 1 + _ ≤ _; omega) fun v4 H4 s4 hv4 => ?_
    obtain ⟨l4, us4, rfl, h4, hA4⟩ := hv4
    have L4 := hA4.length
    rw [List.length_append] at L4
    have L4' : us4.length = 1 + r3.length := L4
    refine ⟨l4, us4, _, rfl, h4, hA4, by omega, fun v5 H5 k s5 ht5 hz5 hv5 => ?_⟩
    have htr : Tr (1 :: r3) := fun hn => by
      by_cases h : r3 = []
      · subst h
        show (1 : Rat) ≠ 0
        decide
      · rw [List.getLast_cons h]
        exact ht3 h
    have er : ([(1 : Rat)] ++ r3).take k = 1 :: r3 := ev_inj ht5 htr fun z => by rw [ev_take_drop _ _ hz5]; rfl
    rw [er] at hv5
    refine q v5 (1 :: r3) H5 (same_rl hR3 (s4.trans s5)) (but_trans (but_trans (same_but a s12) b3) (same_but a (s4.trans s5))) hv5 htr (fun c hc => ?_) (by show r3.length + 1 ≤ _; omega) rfl
    rcases List.mem_cons.mp hc with rfl | hc
    · exact qd1
    · exact hq3 c hc
/-- _law_under: a led row times a number -/
def spUnd (K : PySem.W.Frag) : Sp := fun vs H Q _ => ∃ (a : Addr) (m : Nat), vs = [.ref a, .int (m : Int)] ∧ RlAt a H ∧ m < 100 ∧ ∀ v r H', RlAt a H' → But a H H' → RwT K H' v r → Tr r → at0 r 0 ≠ 0 → Cd 10 14 r → r.length ≤ m + 1 → Q v H'
theorem sc__law_under : FnScope ["reel", "most"] ["reel", "most"] (defScope s__law_under) := ⟨rfl, rfl, rfl, by decide +kernel, rfl, by decide +kernel, by decide +kernel⟩
theorem d__law_under (W : FunIn K mg "_law_under" s__law_under) (D_law_led : Df P w K mg base "_law_led" 37 ["reel", "most"] (spLedD K)) (D_law_some : Df P w K mg base "_law_some" 35 ["reel"] (spSome K)) (D_law_scaled : Df P w K mg base "_law_scaled" 35 ["row", "by"] (spScale K)) : Df P w K mg base "_law_under" 38 ["reel", "most"] (spUnd K) := by
  obtain ⟨f, fd, F, hm⟩ := W
  refine ⟨f, fd, F.ok sc__law_under (fun vs H Q E h => ?_) (fun cdv A outer s H vs Q E hr h => ?_), hm, F.kp, F.binds fun _ _ _ _ _ _ us hl => match us, hl with | [_, _], _ => rfl⟩
  · obtain ⟨a, m, rfl, _⟩ := h
    rfl
  · obtain ⟨a, m, rfl, hR, hm, q⟩ := h
    refine ⟨_, (pss_one (ps_ret (pe_d D_law_scaled (hr.mono (by decide)) rfl (pa_cons (pe_d D_law_led (hr.mono (by decide)) rfl (pa_cons (pv 0) (pa_cons (pv 1) pa_nil))) (pa_cons (pe_d D_law_some (hr.mono (by decide)) rfl (pa_cons (pv 0) pa_nil)) pa_nil))))), ?_⟩
    refine ⟨V.ref a, rfl, V.int (m : Int), rfl, a, m, rfl, hR, hm, fun v r H1 hR1 hB1 hv tr zr lr r0 => ?_⟩
    refine ⟨V.ref a, rfl, a, rfl, hR1, fun w c H2 hR2 hB2 hw zc nc => ?_⟩
    refine ⟨v, w, r, c, 4, 4, rfl, hv.mono (but_samet hR1 hB2), hw, zr.z, zc.z, by decide, by decide, by omega, fun v3 r3 H3 s3 hv3 tr3 ev3 _ l3 => ?_⟩
    have e3 : r3 = smul c r := ev_inj tr3 (tr_smul' nc tr) fun z => by rw [ev3, ev_smul]
    refine q v3 r3 H3 (same_rl hR2 s3) (but_trans hB1 (but_trans hB2 (same_but a s3))) hv3 tr3 ?_ ?_ (by omega)
    · rw [e3, at0_smul, r0, Rat.mul_one]
      exact nc
    · rw [e3]
      exact cd_smul (cd_of_qd zr) zc.z
/-- _law_is_led -/
def spLIsLed (K : PySem.W.Frag) : Sp := fun vs H Q _ => ∃ (x : V) (qs : List Rat), vs = [x] ∧ RwT K H x qs ∧ Tr qs ∧ at0 qs 0 = 1 ∧ Qs 3900 qs ∧ qs.length < 1000 ∧ ∀ H', Same H H' → Q (.bl true) H'
theorem sc__law_is_led : FnScope ["value"] ["value"] (defScope s__law_is_led) := ⟨rfl, rfl, rfl, by decide +kernel, rfl, by decide +kernel, by decide +kernel⟩
theorem d__law_is_led (W : FunIn K mg "_law_is_led" s__law_is_led) (D_law_is_row : Df P w K mg base "_law_is_row" 35 ["value"] (spLIsRow K)) : Df P w K mg base "_law_is_led" 36 ["value"] (spLIsLed K) := by
  obtain ⟨f, fd, F, hm⟩ := W
  refine ⟨f, fd, F.ok sc__law_is_led (fun vs H Q E h => ?_) (fun cdv A outer s H vs Q E hr h => ?_), hm, F.kp, F.binds fun _ _ _ _ _ _ us hl => match us, hl with | [_], _ => rfl⟩
  · obtain ⟨x, qs, rfl, _⟩ := h
    rfl
  · obtain ⟨x, qs, rfl, hx, tq, h0, zq, lq, q⟩ := h
    have hne : qs ≠ [] := ne_of_at0 (i := 0) (by rw [h0]; decide)
    refine ⟨_, (pss_one (ps_ret (pe_and (pe_d D_law_is_row (hr.mono (by decide)) rfl (pa_cons (pv 0) pa_nil)) (pe_and (pe_cmpR (op_neD (hu64 hr)) (pv 0) (pe_tup pa_nil) (nomark _)) (pe_one (pe_cmpR (op_eqD (hu64 hr)) (pe_ix ix_tup (pv 0) pe_int (fun _ _ => rfl)) (pe_tup (pa_cons pe_int (pa_cons pe_int pa_nil))) (nomark _))))))), ?_⟩
    refine ⟨x, rfl, x, qs, rfl, hx, tq, zq, lq, fun H1 s1 => ⟨true, rfl, ?_⟩⟩
    rw [if_pos rfl]
    have hx1 := hx.mono (same_t s1)
    obtain ⟨a, us, rfl, ha, hA⟩ := hx1
    refine ⟨V.ref a, rfl, Nat.zero_le _, fun p hp => ?_⟩
    have s2 := same_new (o := .tup []) hp
    have e2 : upd H1 p (.tup []) p = some (.tup []) := upd_same
    generalize upd H1 p (.tup []) = H2 at s2 e2
    refine rNeD_rw ⟨a, us, rfl, same_seqT s2 ha, fra_mono (same_t s2) hA⟩ (rwt_nil (SqT.of e2)) ?_
    refine ⟨_, rfl, tifn (fun _ => ?_) (fun h => absurd h hne)⟩
    obtain ⟨u0, hat, hu0⟩ := fra_head hA hne
    refine ⟨V.ref a, rfl, a, us, 0, u0, rfl, rfl, same_seqT s2 ha, hat, ?_⟩
    refine ⟨sz_of 2 rfl (by decide), fun p3 hp3 => ?_⟩
    have s3 := same_new (o := .tup [V.int 1, V.int 1]) hp3
    have h3 : FrT K (upd H2 p3 (.tup [V.int 1, V.int 1])) (.ref p3) 1 := ⟨p3, rfl, SqT.of upd_same⟩
    generalize upd H2 p3 (.tup [V.int 1, V.int 1]) = H3 at s3 h3
    refine rEqD_fr (hu0.mono (same_t (s2.trans s3))) h3 ?_
    rw [h0, decide_eq_true rfl]
    exact q H3 (s1.trans (s2.trans s3))
end
end Vx
namespace Vx
open PySem PySem.Spec PyProof.Rows L2
theorem cd_rev {a b : Nat} {l : List Rat} (h : Cd a b l) : Cd a b l.reverse := by
  obtain ⟨D, h0, h1, h2⟩ := h
  exact ⟨D, h0, h1, fun c hc => h2 c (List.mem_reverse.mp hc)⟩
/-- the sizes of a quotient without rest, over one number -/
theorem quo_cd {ps g q : List Rat} {d e d2 e2 n : Nat} (tp : Tr ps) (tg : Tr g) (tq : Tr q) (ng : g ≠ []) (nq : q ≠ []) (h : ∀ z, ev ps z = ev q z * ev g z) (cp : Cd d e ps) (cg : Cd d2 e2 g) (hn : q.length ≤ n) : Cd (d + e2 * n) (e + d2 + (e2 + 1) * n) q := by
  have hg0 : at0 g.reverse 0 ≠ 0 := by
    have hp := List.length_pos_iff.mpr ng
    rw [at0_rev (by omega), Nat.sub_zero]
    have := tg ng
    rw [List.getLast_eq_getElem] at this
    have e2 := at0_get (l := g) (i := g.length - 1) (by omega)
    rw [List.getElem?_eq_getElem (by omega)] at e2
    rw [← Option.some.inj e2]
    exact this
  have S : Ser ps.reverse g.reverse q.reverse := fun k _ => by
    rw [cf_comm]
    exact (cf_of_ev (fun z => rev_prod tq tg tp nq ng h z) k).symm
  obtain ⟨D1, D2, u, p1, b1, p2, b2, pu, bu, _, _, hx⟩ := ser_ov (cd_rev cp) (cd_rev cg) hg0
  refine ⟨D1 * u ^ n, Nat.mul_pos p1 (Nat.pow_pos pu), ?_, fun c hc => ?_⟩
  · rw [Nat.pow_add, Nat.pow_mul]
    exact Nat.mul_le_mul b1 (Nat.pow_le_pow_left bu n)
  · obtain ⟨k, hk, e1⟩ := List.getElem_of_mem (List.mem_reverse.mpr hc)
    have h1 := hx _ S k hk
    rw [at0_some (by rw [List.getElem?_eq_getElem hk, e1])] at h1
    rw [List.length_reverse] at hk
    have h2 := h1.up (K := u ^ (n - (k + 1)))
    have eD : D1 * u ^ (k + 1) * u ^ (n - (k + 1)) = D1 * u ^ n := by
      rw [Nat.mul_assoc, ← Nat.pow_add]
      congr 2
      omega
    rw [eD] at h2
    refine h2.mono ?_
    have h3 : u ^ (n - (k + 1)) ≤ 2 ^ (e2 * (n - (k + 1))) := by
      rw [Nat.pow_mul]
      exact Nat.pow_le_pow_left bu _
    refine Nat.le_trans (Nat.mul_le_mul_left _ h3) ?_
    rw [← Nat.pow_add]
    refine Nat.pow_le_pow_right (by decide) ?_
    have h4 : (e2 + 1) * k + e2 * (n - (k + 1)) ≤ (e2 + 1) * n := by
      have h5 : e2 * (n - (k + 1)) ≤ (e2 + 1) * (n - (k + 1)) := Nat.mul_le_mul_right _ (by omega)
      have h6 : (e2 + 1) * k + (e2 + 1) * (n - (k + 1)) ≤ (e2 + 1) * n := by
        rw [← Nat.mul_add]
        exact Nat.mul_le_mul_left _ (by omega)
      omega
    omega
theorem prim_of_cd {ps : List Rat} {d e : Nat} (tp : Tr ps) (np : ps ≠ []) (cp : Cd d e ps) : ∃ (P : List Int) (k : Rat), k ≠ 0 ∧ toR P = smul k ps ∧ Prim P ∧ Tr (toR P) ∧ P ≠ [] ∧ ∀ n ∈ P, n.natAbs ≤ 2 ^ e := by
  obtain ⟨P, k, k0, hP, pP, tP, nP⟩ := prim_ex tp np
  obtain ⟨D, D0, _, hD⟩ := cp
  obtain ⟨ns, hns, _, hb⟩ := ints_of (b := e) hD
  have rD : (D : Rat) ≠ 0 := by exact_mod_cast (show D ≠ 0 by omega)
  refine ⟨P, k, k0, hP, pP, tP, nP, prim_le pP (c := (D : Rat) / k) (fun z => ?_) ?_ hb⟩
  · have : (D : Rat) / k * k = D := by grind
    rw [z, Rat.zero_mul] at this
    exact rD this.symm
  · rw [hns, hP]
    unfold smul
    rw [List.map_map]
    refine List.map_congr_left fun c _ => ?_
    show (D : Rat) * c = (D : Rat) / k * (k * c)
    grind
/-- the sizes of a greatest common divisor -/
theorem gcd_cd {ps qs g : List Rat} {d e l N : Nat} (tp : Tr ps) (tq : Tr qs) (np : ps ≠ []) (nq : qs ≠ []) (cp : Cd d e ps) (cq : Cd d e qs) (hN : ps.length + qs.length ≤ N) (hl : N ≤ 2 ^ l) (G : Gcd ps qs g) : Cd (bCof l e N) (bCof l e N) g := by
  obtain ⟨P, k1, k10, hP, pP, tP, nP, bP⟩ := prim_of_cd tp np cp
  obtain ⟨Q, k2, k20, hQ, pQ, tQ, nQ, bQ⟩ := prim_of_cd tq nq cq
  have lP : P.length = ps.length := by
    have := congrArg List.length hP
    rwa [toR_len, smul_len] at this
  have lQ : Q.length = qs.length := by
    have := congrArg List.length hQ
    rwa [toR_len, smul_len] at this
  have G2 : Gcd (toR P) (toR Q) g := by
    obtain ⟨x, hx⟩ := G.l
    obtain ⟨y, hy⟩ := G.r
    obtain ⟨u, v, huv⟩ := G.b
    refine ⟨G.tr, G.ld, ⟨smul k1 x, fun z => ?_⟩, ⟨smul k2 y, fun z => ?_⟩, ⟨smul (1 / k1) u, smul (1 / k2) v, fun z => ?_⟩⟩
    · rw [hP, ev_smul, ev_smul, hx]
      grind
    · rw [hQ, ev_smul, ev_smul, hy]
      grind
    · rw [hP, hQ, ev_smul, ev_smul, ev_smul, ev_smul, huv]
      grind
  obtain ⟨G', u, w, S, T, W, ρ, _, _, _, h4, h5, h6, h7, k, k0, h8⟩ := rho_ex tP nP tQ nQ pP bP bQ (l := l) (by omega) G2
  have hmono : bCof l e (P.length + Q.length) ≤ bCof l e N := by
    unfold bCof
    have := Nat.mul_le_mul_left (l + e) (show P.length + Q.length ≤ N by omega)
    omega
  have hb : ∀ n ∈ G', n.natAbs ≤ 2 ^ bCof l e N := fun n hn => Nat.le_trans (prim_le h7 (c := (ρ : Rat)) (by exact_mod_cast h5) h4 h6 n hn) (Nat.pow_le_pow_right (by decide) hmono)
  obtain ⟨i, hi, _⟩ := G.ld
  have hk : ((G'.getD i 0 : Int) : Rat) = k := by
    rw [← at0_toR, h8, at0_smul, hi, Rat.mul_one]
  have hc0 : G'.getD i 0 ≠ 0 := fun z => k0 (by rw [← hk, z]; rfl)
  have hmem : ∀ j, (G'.getD j 0).natAbs ≤ 2 ^ bCof l e N := fun j => by
    by_cases hj : j < G'.length
    · rw [List.getD_eq_getElem?_getD, List.getElem?_eq_getElem hj]
      exact hb _ (List.getElem_mem hj)
    · rw [List.getD_eq_getElem?_getD, List.getElem?_eq_none (by omega)]
      exact Nat.zero_le _
  have hc0b := hmem i
  generalize G'.getD i 0 = c0 at hk hc0 hc0b
  refine ⟨c0.natAbs, by omega, hc0b, fun c hc => ?_⟩
  obtain ⟨j, hj, e1⟩ := List.getElem_of_mem hc
  have e2 : at0 g j = c := at0_some (by rw [List.getElem?_eq_getElem hj, e1])
  have e3 : ((G'.getD j 0 : Int) : Rat) = k * c := by rw [← at0_toR, h8, at0_smul, e2]
  rcases Int.natAbs_eq c0 with z | z
  · refine ⟨G'.getD j 0, ?_, hmem j⟩
    have e4 : ((c0.natAbs : Nat) : Rat) = (c0 : Rat) := by exact_mod_cast z.symm
    rw [e4, e3, hk, Rat.mul_comm]
  · refine ⟨-G'.getD j 0, ?_, by rw [Int.natAbs_neg]; exact hmem j⟩
    have e4 : ((c0.natAbs : Nat) : Rat) = -(c0 : Rat) := by
      have : ((c0.natAbs : Nat) : Int) = -c0 := by omega
      exact_mod_cast this
    rw [e4, hk]
    push_cast
    rw [e3]
    grind
end Vx
namespace Vx
open PySem PySem.Spec PyProof.Rows L2
local macro_rules | `(tactic| walk_at "cl") => `(tactic| first | assumption | exact Bz.mono (Bz.mul (by assumption) (by assumption)) (by decide) | rfl | omega | exact sz_of 0 rfl (by decide) | exact sz_of 1 rfl (by decide) | exact sz_of 2 rfl (by decide) | exact sz_of 3 rfl (by decide) | exact cmuly (by assumption) (by assumption) (by decide) | exact Bz.mono (Bz.mul (by assumption) (by assumption)) (by decide) | decide)
local macro_rules | `(tactic| walk_at "ex") => `(tactic| ((show Exists _); first | apply @Exists.intro V | apply @Exists.intro Int | apply @Exists.intro Addr | apply @Exists.intro (List V) | apply @Exists.intro Nat | apply @Exists.intro Str | apply @Exists.intro Bool | apply @Exists.intro (Option V) | apply @Exists.intro String | apply @Exists.intro Rat | apply @Exists.intro (List Rat)))
local macro_rules | `(tactic| walk_at "rd") => `(tactic| ((repeat (first | (walk_at "ex") | (apply And.intro; (focus (walk_at "cl"))))); (try dsimp only [])))
local macro_rules | `(tactic| walk_at "r0") => `(tactic| (repeat (first | (walk_at "ex") | (apply And.intro; (focus (walk_at "cl"))))))
section
variable {P : Program} {w : World} {K : PySem.W.Frag} {mg : Str → Option Value} {base : Heap}
/-- the sizes under which the law makes the first n numbers -/
def LnN (d e d2 e2 n : Nat) : Prop := e + d2 + (e2 + 1) * n + e2 + 2 ≤ 3890 ∧ d + d2 + e2 * (n + 1) + 2 ≤ 3890 ∧ n ≤ 60
/-- _law_numbers -/
def spLNm (K : PySem.W.Frag) : Sp := fun vs H Q _ => ∃ (x y : V) (n : Nat) (T U : List Rat) (d e d2 e2 : Nat), vs = [x, y, .int (n : Int)] ∧ RwT K H x T ∧ RwT K H y U ∧ at0 U 0 ≠ 0 ∧ Cd d e T ∧ Cd d2 e2 U ∧ LnN d e d2 e2 n ∧ T.length < 100 ∧ U.length < 100 ∧
  ∀ v xs H', Same H H' → RwT K H' v xs → xs.length = n → Ser T U xs → Q v H'
theorem sc__law_numbers : FnScope ["top", "under", "many", "found", "k", "number", "j"] ["top", "under", "many"] (defScope s__law_numbers) := ⟨rfl, rfl, rfl, by decide +kernel, rfl, by decide +kernel, by decide +kernel⟩
theorem d__law_numbers (W : FunIn K mg "_law_numbers" s__law_numbers) (T : Blt mg) (D_law_at : Df P w K mg base "_law_at" 33 ["row", "k"] (spAt K)) (D_law_minus : Df P w K mg base "_law_minus" 34 ["one", "two"] (spR2 K (fun p q => p - q))) (D_law_times : Df P w K mg base "_law_times" 34 ["one", "two"] (spR2 K (fun p q => p * q))) (D_law_over : Df P w K mg base "_law_over" 34 ["one", "two"] (spQ2 K)) : Df P w K mg base "_law_numbers" 35 ["top", "under", "many"] (spLNm K) := by
  obtain ⟨f, fd, F, hm⟩ := W
  refine ⟨f, fd, F.ok sc__law_numbers (fun vs H Q E h => ?_) (fun cdv A outer s H vs Q E hr h => ?_), hm, F.kp, F.binds fun _ _ _ _ _ _ us hl => match us, hl with | [_, _, _], _ => rfl⟩
  · obtain ⟨x, y, n, T, U, d, e, d2, e2, rfl, _⟩ := h
    rfl
  · obtain ⟨x, y, n, T', U', d, e, d2, e2, rfl, hx, hy, u0, cT, cU, ⟨b1, b2, b3⟩, lT, lU, q⟩ := h
    have nd := sc__law_numbers.nd
    have nU : U' ≠ [] := ne_of_at0 u0
    have lU0 := List.length_pos_iff.mpr nU
    obtain ⟨D1, D2, u, p1, h1, p2, h2, pu, hu, o1, o2, hser⟩ := ser_ov cT cU u0
    refine ⟨_, (pss_cons (ps_set (i := 3) nd rfl (Or.inl rfl) (pe_lst pa_nil))
        (pss_cons (ps_for PassesOwn.never rfl (pi_range1 rfl T.n_range (pa_cons (pv 2) pa_nil)) (pg_name (i := 4) nd rfl (Or.inl rfl) (Or.inr rfl)) (pss_cons (ps_set (i := 5) nd rfl (Or.inl rfl) (pe_d D_law_at (hr.mono (by decide)) rfl (pa_cons (pv 0) (pa_cons (pv 4) pa_nil))))
        (pss_cons (ps_for PassesOwn.never rfl (pi_range2 (by rfl) T.n_range (pa_cons pe_int (pa_cons (pe_op op_add (pe_callB (call_min2 rfl) (by rfl) T.n_min (by decide +kernel) (pa_cons (pv 4) (pa_cons (pe_op op_sub (pe_callB call_len_seq (by rfl) T.n_len (by decide +kernel) (pa_cons (pv 1) pa_nil)) pe_int) pa_nil))) pe_int) pa_nil))) (pg_name (i := 6) nd rfl (Or.inl rfl) (Or.inr rfl)) (pss_one (ps_set (i := 5) nd rfl (Or.inl rfl) (pe_d D_law_minus (hr.mono (by decide)) rfl (pa_cons (pv 5) (pa_cons (pe_d D_law_times (hr.mono (by decide)) rfl (pa_cons (pe_ix ix_tup (pv 1) (pv 6) (fun _ _ => rfl)) (pa_cons (pe_ix ix_list (pv 3) (pe_op op_sub (pv 4) (pv 6)) (fun _ _ => rfl)) pa_nil))) pa_nil))))))
        (pss_one (ps_expr (pe_bm PySem.F.plainAttrs_list PySem.F.slot_list_append PySem.F.type_list_append mt_append (pv 3) (pa_cons (pe_d D_law_over (hr.mono (by decide)) rfl (pa_cons (pv 5) (pa_cons (pe_ix ix_tup (pv 1) pe_int (fun _ _ => rfl)) pa_nil))) pa_nil)))))))
        (pss_one (ps_ret (pe_callTy call_tuple_of (by rfl) T.n_tuple (by decide +kernel) (pa_cons (pv 3) pa_nil)))))), ?_⟩
    refine ⟨Nat.zero_le _, fun p hp => ?_⟩
    have s2 := same_new (o := .lst []) hp
    have e2' : upd H p (.lst []) p = some (.lst []) := upd_same
    generalize upd H p (.lst []) = H2 at s2 e2'
    refine ⟨V.int (n : Int), rfl, (n : Int), rfl, by omega, by omega, for_range (lo := 0) (n := n) (D := { nx := tRet (tCB (fun xs H Q => ∃ p ys, xs = [V.ref p] ∧ ((SqL K H p ys ∧ ∀ (l : Addr), H l = none → Q (V.ref l) (upd H l (HO.tup ys))) ∨ SqT K H p ys ∧ Q (V.ref p) H)) (tCons (tVar 3) tNil)) { nx := fun x H' => Q V.non H', rt := Q }, rt := Q }) (fun i σ H' => ∃ (us : List V) (xs : List Rat) (o4 o5 o6 : Option V), σ = [some x, some y, some (.int (n : Int)), some (.ref p), o4, o5, o6] ∧ Same H H' ∧ H' p = some (.lst us) ∧ FrA K H' us xs ∧ xs.length = i ∧ Ser T' U' xs) ⟨[], [], none, none, none, rfl, s2, e2', .nil, rfl, fun k hk => absurd hk (Nat.not_lt_zero _)⟩ ?_ ?_⟩
    · rintro i σ H3 hi ⟨us, xs, o4, o5, o6, rfl, s3, e3, hA, hl, S⟩
      have kx : ∀ i, i < xs.length → OvN (D1 * u ^ (i + 1)) (2 ^ (e + d2 + (e2 + 1) * i)) (at0 xs i) := fun i h => hser xs S i h
      have mul1 : ∀ k, k ≤ n → (e2 + 1) * k ≤ (e2 + 1) * n := fun k h => Nat.mul_le_mul_left _ h
      have mul2 : ∀ k, k ≤ n + 1 → e2 * k ≤ e2 * (n + 1) := fun k h => Nat.mul_le_mul_left _ h
      have zU : ∀ j, Qz 3900 (at0 U' j) := fun j => (o2 j).qz p2 (Nat.lt_of_le_of_lt h2 (Nat.pow_lt_pow_right (by decide) (by omega))) (Nat.pow_lt_pow_right (by decide) (by omega))
      have zx : ∀ j, Qz 3900 (at0 xs j) := fun j => by
        by_cases h : j < xs.length
        · exact (kx j h).qz (Nat.mul_pos p1 (Nat.pow_pos pu)) (pow_lt h1 (upow_le hu (Nat.le_refl _)) (by have := mul2 (j + 1) (by omega); omega)) (Nat.pow_lt_pow_right (by decide) (by have := mul1 j (by omega); omega))
        · rw [at0_out (by omega)]
          exact qz0 (by decide)
      have zm : ∀ j k, Qz 3900 (at0 U' j * at0 xs k) := fun j k => by
        by_cases h : k < xs.length
        · refine ((o2 j).mul (kx k h)).qz (Nat.mul_pos p2 (Nat.mul_pos p1 (Nat.pow_pos pu))) ?_ ?_
          · refine pow_lt h2 (b := d + e2 * (k + 1)) ?_ (by have := mul2 (k + 1) (by omega); omega)
            have h9 := Nat.mul_le_mul h1 (upow_le hu (Nat.le_refl (k + 1)))
            rwa [← Nat.pow_add 2] at h9
          · exact pow_lt (Nat.le_refl _) (Nat.le_refl _) (by have := mul1 k (by omega); omega)
        · rw [at0_out (l := xs) (by omega), Rat.mul_zero]
          exact qz0 (by decide)
      have zp : ∀ p, p ≤ xs.length → Qz 3900 (pt T' U' xs xs.length p) := fun p hp => by
        have h9 := pt_ov (k := xs.length) (o1 xs.length) o2 hu h2 kx p hp
        refine h9.qz (Nat.mul_pos (Nat.mul_pos p1 p2) (Nat.pow_pos pu)) ?_ ?_
        · refine pow_lt (a := d + d2) ?_ (upow_le hu (Nat.le_refl _)) (by have := mul2 xs.length (by omega); omega)
          rw [Nat.pow_add]
          exact Nat.mul_le_mul h1 h2
        · refine pow_lt (b := xs.length) (Nat.le_refl _) ?_ (by have := mul1 xs.length (by omega); rw [Nat.add_mul] at this; omega)
          have h8 := Nat.two_pow_pos (xs.length - p)
          show 2 ^ xs.length + 1 - 2 ^ (xs.length - p) ≤ 2 ^ xs.length
          generalize 2 ^ (xs.length - p) = w1 at h8
          generalize 2 ^ xs.length = w2
          omega
      have hLA := hA.length
      have t3 := same_t s3
      obtain ⟨c, uf, rfl, hc, hF⟩ := hy.mono t3
      have hLF := hF.length
      generalize hg6 : gName 6 = g6
      show gName 4 _ _ _ _
      unfold gName
      dsimp only []
      refine seq_cut (fun σ' H' => ∃ v0 : V, σ' = [some x, some (V.ref c), some (.int (n : Int)), some (.ref p), some (.int (0 + (i : Int))), some v0, o6] ∧ Same H3 H' ∧ FrT K H' v0 (at0 T' xs.length)) (fun nx hnx => ?_) ?_
      · refine ⟨x, rfl, V.int (0 + (i : Int)), rfl, x, T', i, by rw [Int.zero_add]; rfl, hx.mono t3, fun v0 H4 s4 hv0 => ?_⟩
        refine hnx _ _ ⟨v0, rfl, s4, ?_⟩
        rw [hl]
        exact hv0
      rintro _ H4 ⟨v0, rfl, s4, hv0⟩
      have e4 := s4 _ _ e3
      refine seq_cut (fun σ' H' => ∃ (v1 : V) (o : Option V), σ' = [some x, some (V.ref c), some (.int (n : Int)), some (.ref p), some (.int (0 + (i : Int))), some v1, o] ∧ Same H4 H' ∧ FrT K H' v1 (pt T' U' xs xs.length xs.length)) (fun nx hnx => ?_) ?_
      · have hn : ((if ((uf.length : Int) - 1) < (0 + (i : Int)) then ((uf.length : Int) - 1) else (0 + (i : Int))) + 1 - 1).toNat = min us.length (U'.length - 1) := by split <;> omega
        have hb : -2 ^ 62 ≤ (if ((uf.length : Int) - 1) < (0 + (i : Int)) then ((uf.length : Int) - 1) else (0 + (i : Int))) + 1 ∧ (if ((uf.length : Int) - 1) < (0 + (i : Int)) then ((uf.length : Int) - 1) else (0 + (i : Int))) + 1 < 2 ^ 62 := by constructor <;> split <;> omega
        refine ⟨V.int (0 + (i : Int)), rfl, V.ref c, rfl, c, uf, rfl, Or.inr (samet_seqT (same_t s4) hc), _, _, rfl, rfl, _, _, rfl, _, _, rfl, rfl, ?_⟩
        refine ⟨1, _, rfl, ⟨by decide, by decide, hb.1, hb.2⟩, for_range (lo := 1) (D := { nx := nx, rt := Q }) (fun j σ H' => ∃ (w : V) (o : Option V), σ = [some x, some (V.ref c), some (.int (n : Int)), some (.ref p), some (.int (0 + (i : Int))), some w, o] ∧ Same H4 H' ∧ FrT K H' w (pt T' U' xs xs.length j)) ⟨v0, o6, rfl, Same.refl _, ?_⟩ ?_ ?_⟩
        · have : pt T' U' xs xs.length 0 = at0 T' xs.length := by
            unfold pt
            show at0 T' xs.length - 0 = _
            grind
          rw [this]
          exact hv0
        · rintro j σ H5 hj ⟨w0, o, rfl, s5, hw⟩
          rw [hn] at hj
          rw [← hg6]
          have t5 := same_t (s4.trans s5)
          have hiF : j + 1 < uf.length := by omega
          have hiX : us.length - (j + 1) < us.length := by omega
          obtain ⟨ef, hef, hff⟩ := hF.get (List.getElem?_eq_getElem hiF)
          obtain ⟨ex, hex, hxx⟩ := hA.get (List.getElem?_eq_getElem hiX)
          have q1 := at0_some hef
          have q2 := at0_some hex
          refine ⟨w0, rfl, V.ref c, rfl, V.int (1 + (j : Int)), rfl, c, uf, 1 + (j : Int), _, rfl, rfl, samet_seqT t5 hc, (by rw [show (1 : Int) + (j : Int) = ((j + 1 : Nat) : Int) by omega]; exact atI_nat (j := j + 1) (List.getElem?_eq_getElem hiF)), ?_⟩
          refine ⟨V.ref p, rfl, V.int (0 + (i : Int)), rfl, V.int (1 + (j : Int)), rfl, _, _, rfl, rfl, p, us, (0 + (i : Int)) - (1 + (j : Int)), _, rfl, rfl, SqL.of (s5 _ _ e4), (by rw [show (0 + (i : Int)) - (1 + (j : Int)) = ((us.length - (j + 1) : Nat) : Int) by omega]; exact atI_nat (j := us.length - (j + 1)) (List.getElem?_eq_getElem hiX)), ?_⟩
          refine ⟨_, _, ef, ex, rfl, hff.mono t5, hxx.mono t5, by rw [← q1]; exact zU _, by rw [← q2]; exact zx _, fun v3 H6 s6 hv3 => ?_⟩
          refine ⟨w0, v3, _, _, rfl, hw.mono (same_t s6), hv3, zp j (by omega), by rw [← q1, ← q2]; exact zm _ _, fun v4 H7 s7 hv4 => ?_⟩
          refine ⟨v4, some (V.int (1 + (j : Int))), rfl, s5.trans (s6.trans s7), ?_⟩
          rw [pt_succ, q1, show xs.length - (j + 1) = us.length - (j + 1) by omega, q2]
          exact hv4
        · rintro σ H5 ⟨w0, o, rfl, s5, hw⟩
          rw [hn] at hw
          refine hnx _ _ ⟨w0, o, rfl, s5, ?_⟩
          have e9 : pt T' U' xs xs.length (min us.length (U'.length - 1)) = pt T' U' xs xs.length xs.length := by
            by_cases h9 : U'.length - 1 ≤ us.length
            · exact pt_end T' U' xs xs.length (by omega) (by omega)
            · rw [show min us.length (U'.length - 1) = xs.length by omega]
          rw [← e9]
          exact hw
      rintro _ H5 ⟨v1, o, rfl, s5, hv1⟩
      have e5 := s5 _ _ e4
      have t45 := same_t (s4.trans s5)
      obtain ⟨f0, hat, hf0⟩ := fra_head hF nU
      refine ⟨V.ref p, rfl, Or.inl ⟨rfl, _, SqL.of e5⟩, v1, rfl, V.ref c, rfl, c, uf, 0, f0, rfl, rfl, samet_seqT t45 hc, hat, v1, f0, _, _, rfl, hv1, hf0.mono t45, u0, zp _ (Nat.le_refl _), zU 0, fun w H6 s6 hw => ?_⟩
      have e6 := s6 _ _ e5
      refine ⟨p, us, w, rfl, rfl, e6, by rw [sizeLine_eq]; omega, ?_⟩
      have s36 := s3.trans (s4.trans (s5.trans s6))
      have s7 : Same H (upd H6 p (.lst (us ++ [w]))) := fun c o e => by rw [upd_ne (ne_of_none e hp)]; exact s36 _ _ e
      refine ⟨us ++ [w], xs ++ [pt T' U' xs xs.length xs.length / at0 U' 0], _, _, _, rfl, s7, upd_same, ?_, by rw [List.length_append, hl]; rfl, ser_snoc S u0 rfl⟩
      exact (fra_mono ((same_t (s4.trans (s5.trans s6))).trans (samet_lst e6)) hA).append (.cons (hw.mono (samet_lst e6)) .nil)
    · rintro σ H3 ⟨us, xs, o4, o5, o6, rfl, s3, e3, hA, hl, S⟩
      refine ⟨V.ref p, rfl, p, us, rfl, Or.inl ⟨SqL.of e3, fun l hl2 => ?_⟩⟩
      have s4 := same_new (o := .tup us) hl2
      exact q _ xs _ (s3.trans s4) ⟨l, us, rfl, SqT.of upd_same, fra_mono (same_t s4) hA⟩ hl S
end
end Vx
namespace Vx
open PySem PySem.Spec PyProof.Rows L2
theorem nle_mul {x y p : Int} {B : Nat} (h : p = x * y) (hy : y ≠ 0) (hp : p.natAbs ≤ B) : x.natAbs ≤ B := by
  rw [h, Int.natAbs_mul] at hp
  have : 0 < y.natAbs := by omega
  exact Nat.le_trans (Nat.le_mul_of_pos_right _ this) hp
theorem ints_eq {a b : List Int} (h : ∀ z, ev (toR a) z = ev (toR b) z) (i : Nat) : a.getD i 0 = b.getD i 0 := by
  have := ev_ats h i
  rw [at0_toR, at0_toR] at this
  exact_mod_cast this
theorem fac_le {U W ns : List Int} {B : Nat} (tU : Tr (toR U)) (nU : U ≠ []) (tW : Tr (toR W)) (W0 : W.getD 0 0 ≠ 0) (h : ∀ z, ev (toR ns) z = ev (toR U) z * ev (toR W) z) (hl : U.length + W.length ≤ 5) (hU : U.length ≤ 3) (hB : ∀ i, (ns.getD i 0).natAbs ≤ B) : ∀ n ∈ U, n.natAbs ≤ B + B * B := by
  have h0 : ns.getD 0 0 = U.getD 0 0 * W.getD 0 0 := by
    have := at0_mul h
    rw [at0_toR, at0_toR, at0_toR] at this
    exact_mod_cast this
  have b0 := nle_mul h0 W0 (hB 0)
  match U, W with
  | [], _ => exact absurd rfl nU
  | [a], _ =>
    intro n hn
    rw [List.mem_singleton.mp hn]
    exact Nat.le_trans b0 (Nat.le_add_right _ _)
  | [a, b], [] => exact absurd rfl W0
  | [a, b], [g] =>
    have e := ints_eq (b := [a * g, b * g]) (fun z => by
      rw [h]
      show ((a : Rat) + z * ((b : Rat) + z * 0)) * ((g : Rat) + z * 0) = ((a * g : Int) : Rat) + z * (((b * g : Int) : Rat) + z * 0)
      push_cast
      grind)
    have b1 := nle_mul (x := b) (y := g) (e 1) W0 (hB 1)
    intro n hn
    rcases List.mem_cons.mp hn with rfl | hn
    · exact Nat.le_trans b0 (Nat.le_add_right _ _)
    · rw [List.mem_singleton.mp hn]
      exact Nat.le_trans b1 (Nat.le_add_right _ _)
  | [a, b], [g, k] =>
    have k0 : k ≠ 0 := fun z => tW (fun z => by cases z) (by rw [z]; rfl)
    have e := ints_eq (b := [a * g, a * k + b * g, b * k]) (fun z => by
      rw [h]
      show ((a : Rat) + z * ((b : Rat) + z * 0)) * ((g : Rat) + z * ((k : Rat) + z * 0)) = ((a * g : Int) : Rat) + z * (((a * k + b * g : Int) : Rat) + z * (((b * k : Int) : Rat) + z * 0))
      push_cast
      grind)
    have b1 := nle_mul (x := b) (y := k) (e 2) k0 (hB 2)
    intro n hn
    rcases List.mem_cons.mp hn with rfl | hn
    · exact Nat.le_trans b0 (Nat.le_add_right _ _)
    · rw [List.mem_singleton.mp hn]
      exact Nat.le_trans b1 (Nat.le_add_right _ _)
  | [a, b], [g, k, l] =>
    have k0 : l ≠ 0 := fun z => tW (fun z => by cases z) (by rw [z]; rfl)
    have e := ints_eq (b := [a * g, a * k + b * g, a * l + b * k, b * l]) (fun z => by
      rw [h]
      show ((a : Rat) + z * ((b : Rat) + z * 0)) * ((g : Rat) + z * ((k : Rat) + z * ((l : Rat) + z * 0))) = ((a * g : Int) : Rat) + z * (((a * k + b * g : Int) : Rat) + z * (((a * l + b * k : Int) : Rat) + z * (((b * l : Int) : Rat) + z * 0)))
      push_cast
      grind)
    have b1 := nle_mul (x := b) (y := l) (e 3) k0 (hB 3)
    intro n hn
    rcases List.mem_cons.mp hn with rfl | hn
    · exact Nat.le_trans b0 (Nat.le_add_right _ _)
    · rw [List.mem_singleton.mp hn]
      exact Nat.le_trans b1 (Nat.le_add_right _ _)
  | [a, b], _ :: _ :: _ :: _ :: _ =>
    simp only [List.length_cons] at hl
    omega
  | [a, b, c], [] => exact absurd rfl W0
  | [a, b, c], [g] =>
    have e := ints_eq (b := [a * g, b * g, c * g]) (fun z => by
      rw [h]
      show ((a : Rat) + z * ((b : Rat) + z * ((c : Rat) + z * 0))) * ((g : Rat) + z * 0) = ((a * g : Int) : Rat) + z * (((b * g : Int) : Rat) + z * (((c * g : Int) : Rat) + z * 0))
      push_cast
      grind)
    have b1 := nle_mul (x := b) (y := g) (e 1) W0 (hB 1)
    have b2 := nle_mul (x := c) (y := g) (e 2) W0 (hB 2)
    intro n hn
    rcases List.mem_cons.mp hn with rfl | hn
    · exact Nat.le_trans b0 (Nat.le_add_right _ _)
    · rcases List.mem_cons.mp hn with rfl | hn
      · exact Nat.le_trans b1 (Nat.le_add_right _ _)
      · rw [List.mem_singleton.mp hn]
        exact Nat.le_trans b2 (Nat.le_add_right _ _)
  | [a, b, c], [g, k] =>
    have k0 : k ≠ 0 := fun z => tW (fun z => by cases z) (by rw [z]; rfl)
    have c0 : c ≠ 0 := fun z => tU (fun z => by cases z) (by rw [z]; rfl)
    have e := ints_eq (b := [a * g, a * k + b * g, b * k + c * g, c * k]) (fun z => by
      rw [h]
      show ((a : Rat) + z * ((b : Rat) + z * ((c : Rat) + z * 0))) * ((g : Rat) + z * ((k : Rat) + z * 0)) = ((a * g : Int) : Rat) + z * (((a * k + b * g : Int) : Rat) + z * (((b * k + c * g : Int) : Rat) + z * (((c * k : Int) : Rat) + z * 0)))
      push_cast
      grind)
    have b2 := nle_mul (x := c) (y := k) (e 3) k0 (hB 3)
    have bk := nle_mul (x := k) (y := c) ((e 3).trans (Int.mul_comm c k)) c0 (hB 3)
    have e1 : ns.getD 1 0 = a * k + b * g := e 1
    have hak : (a * k).natAbs ≤ B * B := by
      rw [Int.natAbs_mul]
      exact Nat.mul_le_mul b0 bk
    have hB1 := hB 1
    have b1 := nle_mul (x := b) (y := g) (p := ns.getD 1 0 - a * k) (B := B + B * B) (by omega) W0 (by omega)
    intro n hn
    rcases List.mem_cons.mp hn with rfl | hn
    · exact Nat.le_trans b0 (Nat.le_add_right _ _)
    · rcases List.mem_cons.mp hn with rfl | hn
      · exact b1
      · rw [List.mem_singleton.mp hn]
        exact Nat.le_trans b2 (Nat.le_add_right _ _)
  | [a, b, c], _ :: _ :: _ :: _ =>
    simp only [List.length_cons] at hl
    omega
  | _ :: _ :: _ :: _ :: _, _ =>
    simp only [List.length_cons] at hU
    omega
theorem quo_small {R X W : List Rat} {W' : List Int} {k : Rat} (tX : Tr X) (nX : X ≠ []) (h : ∀ z, ev R z = ev X z * ev W z) (cR : Cd 10 14 R) (hk : k ≠ 0) (hW : toR W' = smul k W) (pW : Prim W') (tW' : Tr (toR W')) (nW' : W' ≠ []) (u0 : at0 W 0 ≠ 0) (zu : Qz 15 (at0 W 0)) (g0 : (W'.getD 0 0).natAbs ≤ 2 ^ 14) (lX : X.length ≤ 3) (lxw : X.length + W.length ≤ 5) : Cd 62 62 X := by
  obtain ⟨D, D0, hD, hb⟩ := cR
  obtain ⟨ns, hns, _, hn⟩ := ints_of (b := 14) hb
  have rD : (D : Rat) ≠ 0 := by exact_mod_cast (show D ≠ 0 by omega)
  have hq : (D : Rat) / k ≠ 0 := fun z => rD (by
    have : (D : Rat) / k * k = D := by grind
    rw [z, Rat.zero_mul] at this
    exact this.symm)
  have e1 : ∀ z, ev (toR ns) z = ev (smul ((D : Rat) / k) X) z * ev (toR W') z := fun z => by
    rw [hns, hW, ev_smul, ev_smul, ev_smul, h]
    grind
  obtain ⟨U, tU, hU⟩ := gauss_tr pW e1
  have eU : toR U = smul ((D : Rat) / k) X := ev_inj tU (tr_smul' hq tX) (ev_cancel tW' (fun z => nW' (by cases W' with | nil => rfl | cons _ _ => cases z)) fun z => by rw [← hU, e1])
  have lU : U.length = X.length := by
    have := congrArg List.length eU
    rwa [toR_len, smul_len] at this
  have lW : W'.length = W.length := by
    have := congrArg List.length hW
    rwa [toR_len, smul_len] at this
  have ew : ((W'.getD 0 0 : Int) : Rat) = k * at0 W 0 := by rw [← at0_toR, hW, at0_smul]
  have w0 : W'.getD 0 0 ≠ 0 := fun z => by
    rw [z] at ew
    rcases Rat.mul_eq_zero.mp ew.symm with z | z
    · exact hk z
    · exact u0 z
  have hnB : ∀ i, (ns.getD i 0).natAbs ≤ 2 ^ 14 := fun i => by
    by_cases hi : i < ns.length
    · rw [List.getD_eq_getElem?_getD, List.getElem?_eq_getElem hi]
      exact hn _ (List.getElem_mem hi)
    · rw [List.getD_eq_getElem?_getD, List.getElem?_eq_none (by omega)]
      exact Nat.zero_le _
  have lX0 := List.length_pos_iff.mpr nX
  have bU := fac_le tU (fun z => by rw [z] at lU; simp only [List.length_nil] at lU; omega) tW' w0 hU (by omega) (by omega) hnB
  have cU : Cd 0 29 (toR U) := ⟨1, by decide, by decide, fun c hc => by
    obtain ⟨n, hn, rfl⟩ := List.mem_map.mp hc
    refine ⟨n, ?_, Nat.le_trans (bU n hn) (by decide)⟩
    show (n : Rat) * 1 = n
    grind⟩
  have eX : X = smul (k / D) (toR U) := by
    rw [eU]
    unfold smul
    rw [List.map_map]
    refine (List.map_id X).symm.trans (List.map_congr_left fun c _ => ?_)
    show c = k / D * (D / k * c)
    grind
  generalize hw0 : W'.getD 0 0 = q0 at ew w0 g0
  generalize at0 W 0 = u at ew u0 zu
  have hud := u.den_pos
  have ek : k / D = Rat.divInt (q0 * u.den) (u.num * D) := by
    rw [Rat.divInt_eq_div]
    push_cast
    rw [ew]
    have e : u = (u.num : Rat) / ((u.den : Int) : Rat) := by
      rw [← Rat.divInt_eq_div]
      exact (fr_self u).symm
    have h3 : ((u.den : Int) : Rat) ≠ 0 := by exact_mod_cast (show (u.den : Int) ≠ 0 by omega)
    have h4 : (u.num : Rat) ≠ 0 := fun z => u0 (by rw [e, z]; grind)
    have h5 : ((u.den : Nat) : Rat) = ((u.den : Int) : Rat) := rfl
    rw [h5]
    generalize ((u.den : Int) : Rat) = dd at *
    generalize (u.num : Rat) = nn at *
    rw [e]
    grind
  have zk : Qz 30 (k / D) := by
    rw [ek]
    have h1 := zu.1
    have h2 := zu.2
    refine Qz.of_div ?_ ?_ (Int.mul_ne_zero (fun z => u0 (Rat.num_eq_zero.mp z)) (by omega))
    · unfold Bz
      rw [Int.natAbs_mul, Int.natAbs_natCast]
      have := Nat.mul_le_mul g0 (Nat.le_of_lt h2)
      refine Nat.lt_of_le_of_lt this (by decide)
    · unfold Bz
      rw [Int.natAbs_mul, Int.natAbs_natCast]
      have := Nat.mul_le_mul (Nat.le_of_lt h1) hD
      refine Nat.lt_of_le_of_lt this (by decide)
  rw [eX]
  exact cd_mono (cd_smul cU zk) (by decide) (by decide)
theorem ans_cd {T U E F : List Rat} (tT : Tr T) (tU : Tr U) (u0 : at0 U 0 ≠ 0) (cT : Cd 6 10 T) (cU : Cd 10 14 U) (lT : T.length ≤ 4) (lU : U.length ≤ 4) (A : IsAns E F) (hx : ∀ z, ev T z * ev F z = ev U z * ev E z) :
    ∃ e, Cd e e E ∧ Cd e e F ∧ (e = 29 ∨ (e = 62 ∧ E.length ≤ 3 ∧ F.length ≤ 3)) ∧ E.length ≤ 4 ∧ F.length ≤ 4 := by
  have nU : U ≠ [] := ne_of_at0 u0
  have nF := A.ne
  obtain ⟨a, b, hab⟩ := A.g.b
  obtain ⟨W, tW, _, hW⟩ := trim_ex (ladd (pmul a T) (pmul b U))
  have hUW : ∀ z, ev U z = ev W z * ev F z := fun z => by
    have h1 := hab z
    rw [ev1] at h1
    rw [hW, ev_ladd, ev_pmul, ev_pmul]
    have h2 := hx z
    grind
  have hUF : ∀ z, ev U z = ev F z * ev W z := fun z => by rw [hUW, Rat.mul_comm]
  have hTW0 := ev_cancel (x := T) (y := pmul W E) A.tq nF (fun z => by
    rw [hx, ev_pmul, hUW]
    grind)
  have hTW : ∀ z, ev T z = ev W z * ev E z := fun z => by rw [hTW0, ev_pmul]
  have hTE : ∀ z, ev T z = ev E z * ev W z := fun z => by rw [hTW, Rat.mul_comm]
  have ew : at0 U 0 = at0 W 0 := by rw [at0_mul hUW, A.h0, Rat.mul_one]
  have w0 : at0 W 0 ≠ 0 := by rw [← ew]; exact u0
  have nW : W ≠ [] := ne_of_at0 w0
  have l1 := mult_len' tW A.tq nF tU nU hUW
  have lW0 := List.length_pos_iff.mpr nW
  have lF0 := List.length_pos_iff.mpr nF
  have zU := cd_qs cU (c := 15) (by decide) (by decide)
  have zu : Qz 15 (at0 W 0) := by
    rw [← ew]
    cases U with
    | nil => exact absurd rfl nU
    | cons c l => exact zU c List.mem_cons_self
  by_cases nE : E = []
  · subst nE
    refine ⟨29, cd_nil, ?_, .inl rfl, Nat.zero_le _, by omega⟩
    have h3 := div_len (x := b) (g := [1]) (s := F) (fun _ => by show (1 : Rat) ≠ 0; decide) (fun z => by cases z) A.tq nF (fun z => by rw [hab]; show _ * 0 + _ = _; grind)
    match F, nF, h3, A.h0 with
    | [c], _, _, h0 =>
      have : c = 1 := h0
      rw [this]
      exact ⟨1, by decide, by decide, fun x hx => ⟨1, by rw [List.mem_singleton.mp hx, Rat.one_mul]; rfl, by decide⟩⟩
    | _ :: _ :: _, _, h3, _ =>
      simp only [List.length_cons] at h3
      simp only [List.length_nil] at h3
      omega
  have lE0 := List.length_pos_iff.mpr nE
  have nT : T ≠ [] := prod_ne tW A.tp nW nE tT hTW
  have l2 := mult_len' tW A.tp nE tT nT hTW
  by_cases h1 : W.length = 1
  · obtain ⟨c, rfl⟩ : ∃ c, W = [c] := by
      match W, h1 with
      | [c], _ => exact ⟨c, rfl⟩
    have c0 : c ≠ 0 := w0
    have ci : (1 : Rat) / c ≠ 0 := by grind
    have zc : Qz 15 (1 / c) := qz_inv zu w0
    have ec : ∀ z, ev [c] z = c := fun z => by show c + z * 0 = c; grind
    have eE : E = smul (1 / c) T := ev_inj A.tp (tr_smul' ci tT) fun z => by
      rw [ev_smul, hTW, ec]
      grind
    have eF : F = smul (1 / c) U := ev_inj A.tq (tr_smul' ci tU) fun z => by
      rw [ev_smul, hUW, ec]
      grind
    refine ⟨29, ?_, ?_, .inl rfl, by omega, by omega⟩
    · rw [eE]
      exact cd_mono (cd_smul cT zc) (by decide) (by decide)
    · rw [eF]
      exact cd_mono (cd_smul cU zc) (by decide) (by decide)
  · obtain ⟨W', k, hk, hW', pW, tW', nW'⟩ := prim_ex tW nW
    have g0 : (W'.getD 0 0).natAbs ≤ 2 ^ 14 := by
      obtain ⟨D, D0, _, hb⟩ := cU
      obtain ⟨ns, hns, _, hn⟩ := ints_of (b := 14) hb
      have rD : (D : Rat) ≠ 0 := by exact_mod_cast (show D ≠ 0 by omega)
      obtain ⟨V, tV, hV⟩ := gauss_tr (F := ns) (w := smul ((D : Rat) / k) F) pW fun z => by
        rw [hns, hW', ev_smul, ev_smul, ev_smul, hUW]
        grind
      have h5 : ns.getD 0 0 = V.getD 0 0 * W'.getD 0 0 := by
        have := at0_mul hV
        rw [at0_toR, at0_toR, at0_toR] at this
        exact_mod_cast this
      have h6 : ns.getD 0 0 ≠ 0 := fun z => by
        have h7 : at0 (toR ns) 0 = (D : Rat) * at0 U 0 := by rw [hns, at0_smul]
        rw [at0_toR, z] at h7
        rcases Rat.mul_eq_zero.mp h7.symm with y | y
        · exact rD y
        · exact u0 y
      have h8 : (ns.getD 0 0).natAbs ≤ 2 ^ 14 := by
        by_cases hi : 0 < ns.length
        · rw [List.getD_eq_getElem?_getD, List.getElem?_eq_getElem hi]
          exact hn _ (List.getElem_mem hi)
        · rw [List.getD_eq_getElem?_getD, List.getElem?_eq_none (by omega)]
          exact Nat.zero_le _
      exact nle_mul (h5.trans (Int.mul_comm _ _)) (fun z => h6 (by rw [h5, z, Int.zero_mul])) h8
    refine ⟨62, ?_, ?_, .inr ⟨rfl, by omega, by omega⟩, by omega, by omega⟩
    · exact quo_small A.tp nE hTE (cd_mono cT (by decide) (by decide)) hk hW' pW tW' nW' w0 zu g0 (by omega) (by omega)
    · exact quo_small A.tq nF hUF cU hk hW' pW tW' nW' w0 zu g0 (by omega) (by omega)
end Vx
namespace Vx
open PySem PySem.Spec PyProof.Rows L2
local macro_rules | `(tactic| walk_at "cl") => `(tactic| first | assumption | exact Bz.mono (Bz.mul (by assumption) (by assumption)) (by decide) | rfl | omega | exact sz_of 0 rfl (by decide) | exact sz_of 1 rfl (by decide) | exact sz_of 2 rfl (by decide) | exact sz_of 3 rfl (by decide) | exact cmuly (by assumption) (by assumption) (by decide) | exact Bz.mono (Bz.mul (by assumption) (by assumption)) (by decide) | decide)
local macro_rules | `(tactic| walk_at "ex") => `(tactic| ((show Exists _); first | apply @Exists.intro V | apply @Exists.intro Int | apply @Exists.intro Addr | apply @Exists.intro (List V) | apply @Exists.intro Nat | apply @Exists.intro Str | apply @Exists.intro Bool | apply @Exists.intro (Option V) | apply @Exists.intro String | apply @Exists.intro Rat | apply @Exists.intro (List Rat)))
local macro_rules | `(tactic| walk_at "rd") => `(tactic| ((repeat (first | (walk_at "ex") | (apply And.intro; (focus (walk_at "cl"))))); (try dsimp only [])))
local macro_rules | `(tactic| walk_at "r0") => `(tactic| (repeat (first | (walk_at "ex") | (apply And.intro; (focus (walk_at "cl"))))))
section
variable {P : Program} {w : World} {K : PySem.W.Frag} {mg : Str → Option Value} {base : Heap}
/-- _law_answer -/
def spLAns (K : PySem.W.Frag) : Sp := fun vs H Q _ => ∃ (x y : V) (T U : List Rat), vs = [x, y] ∧ RwT K H x T ∧ RwT K H y U ∧ Tr T ∧ Tr U ∧ at0 U 0 ≠ 0 ∧ Cd 6 10 T ∧ Cd 10 14 U ∧ T.length ≤ 4 ∧ U.length ≤ 4 ∧
  ∀ v E F H', Same H H' → AnT K H' v E F → IsAns E F → (∀ z, ev T z * ev F z = ev U z * ev E z) → Q v H'
theorem ans_nil : IsAns [] [(1 : Rat)] := ⟨fun h => absurd rfl h, fun _ => by show (1 : Rat) ≠ 0; decide, rfl, ⟨fun _ => by show (1 : Rat) ≠ 0; decide, ⟨0, rfl, fun j h => absurd h (Nat.not_lt_zero j)⟩, ⟨[], fun z => by rw [ev_nil, Rat.zero_mul]⟩, ⟨[1], fun z => by rw [ev1, Rat.one_mul]⟩, ⟨[], [1], fun z => by rw [ev_nil, ev1]; grind⟩⟩⟩
theorem sc__law_answer : FnScope ["top", "under", "both", "by"] ["top", "under"] (defScope s__law_answer) := ⟨rfl, rfl, rfl, by decide +kernel, rfl, by decide +kernel, by decide +kernel⟩
theorem d__law_answer (W : FunIn K mg "_law_answer" s__law_answer) (D_law_divisor : Df P w K mg base "_law_divisor" 37 ["one", "two"] (spLaDiv K)) (D_law_parted : Df P w K mg base "_law_parted" 35 ["one", "two"] (spLaPart K)) (D_law_over : Df P w K mg base "_law_over" 34 ["one", "two"] (spQ2 K)) (D_law_scaled : Df P w K mg base "_law_scaled" 35 ["row", "by"] (spScale K)) : Df P w K mg base "_law_answer" 38 ["top", "under"] (spLAns K) := by
  obtain ⟨f, fd, F, hm⟩ := W
  refine ⟨f, fd, F.ok sc__law_answer (fun vs H Q E h => ?_) (fun cdv A outer s H vs Q E hr h => ?_), hm, F.kp, F.binds fun _ _ _ _ _ _ us hl => match us, hl with | [_, _], _ => rfl⟩
  · obtain ⟨x, y, T, U, rfl, _⟩ := h
    rfl
  · obtain ⟨x, y, T', U', rfl, hx, hy, tT, tU, u0, cT, cU, lT, lU, q⟩ := h
    have nd := sc__law_answer.nd
    have nU : U' ≠ [] := ne_of_at0 u0
    have lU0 := List.length_pos_iff.mpr nU
    refine ⟨_, (pss_cons (ps_if (pt_cmpR (op_eqD (hu64 hr)) (pv 0) (pe_tup pa_nil) (nomark _)) (pss_one (ps_ret (pe_tup (pa_cons (pe_tup pa_nil) (pa_cons (pe_tup (pa_cons (pe_tup (pa_cons pe_int (pa_cons pe_int pa_nil))) pa_nil)) pa_nil))))) pss_nil)
        (pss_cons (ps_set (i := 2) nd rfl (Or.inl rfl) (pe_d D_law_divisor (hr.mono (by decide)) rfl (pa_cons (pv 0) (pa_cons (pv 1) pa_nil))))
        (pss_cons (ps_par (i := 0) (j := 1) (by rfl) nd rfl rfl (by decide) rfl rfl (pa_cons (pe_ix ix_tup (pe_d D_law_parted (hr.mono (by decide)) rfl (pa_cons (pv 0) (pa_cons (pv 2) pa_nil))) pe_int (fun _ _ => rfl)) (pa_cons (pe_ix ix_tup (pe_d D_law_parted (hr.mono (by decide)) rfl (pa_cons (pv 1) (pa_cons (pv 2) pa_nil))) pe_int (fun _ _ => rfl)) pa_nil)) (by rfl))
        (pss_cons (ps_set (i := 3) nd rfl (Or.inl rfl) (pe_d D_law_over (hr.mono (by decide)) rfl (pa_cons (pe_tup (pa_cons pe_int (pa_cons pe_int pa_nil))) (pa_cons (pe_ix ix_tup (pv 1) pe_int (fun _ _ => rfl)) pa_nil))))
        (pss_one (ps_ret (pe_tup (pa_cons (pe_d D_law_scaled (hr.mono (by decide)) rfl (pa_cons (pv 0) (pa_cons (pv 3) pa_nil))) (pa_cons (pe_d D_law_scaled (hr.mono (by decide)) rfl (pa_cons (pv 1) (pa_cons (pv 3) pa_nil))) pa_nil))))))))), ?_⟩
    refine ⟨x, rfl, sz_of 0 rfl (by decide), fun p hp => ?_⟩
    have s1 := same_new (o := .tup []) hp
    have e1 : upd H p (.tup []) p = some (.tup []) := upd_same
    generalize upd H p (.tup []) = H1 at s1 e1
    refine rEqD_rw (hx.mono (same_t s1)) (rwt_nil (SqT.of e1)) ⟨_, rfl, ?_⟩
    refine tif (fun h0 => ?_) (fun h0 => ?_)
    · refine ⟨sz_of 0 rfl (by decide), fun p2 hp2 => ?_⟩
      have s2 := same_new (o := .tup []) hp2
      have e2 : upd H1 p2 (.tup []) p2 = some (.tup []) := upd_same
      generalize upd H1 p2 (.tup []) = H2 at s2 e2
      refine ⟨sz_of 2 rfl (by decide), fun p3 hp3 => ?_⟩
      have s3 := same_new (o := .tup [V.int 1, V.int 1]) hp3
      have f3 : FrT K (upd H2 p3 (.tup [V.int 1, V.int 1])) (.ref p3) 1 := ⟨p3, rfl, SqT.of upd_same⟩
      generalize upd H2 p3 (.tup [V.int 1, V.int 1]) = H3 at s3 f3
      refine ⟨sz_of 1 rfl (by decide), fun p4 hp4 => ?_⟩
      have s4 := same_new (o := .tup [V.ref p3]) hp4
      have f4 : RwT K (upd H3 p4 (.tup [V.ref p3])) (.ref p4) [1] := ⟨p4, _, rfl, SqT.of upd_same, Al.one (f3.mono (same_t s4))⟩
      generalize upd H3 p4 (.tup [V.ref p3]) = H4 at s4 f4
      refine ⟨sz_of 2 rfl (by decide), fun p5 hp5 => ?_⟩
      have s5 := same_new (o := .tup [V.ref p2, V.ref p4]) hp5
      have e5 : upd H4 p5 (.tup [V.ref p2, V.ref p4]) p5 = some (.tup [V.ref p2, V.ref p4]) := upd_same
      generalize upd H4 p5 (.tup [V.ref p2, V.ref p4]) = H5 at s5 e5
      refine q _ [] [1] H5 (s1.trans (s2.trans (s3.trans (s4.trans s5)))) ⟨p5, V.ref p2, V.ref p4, rfl, SqT.of e5, (rwt_nil (SqT.of e2)).mono (same_t (s3.trans (s4.trans s5))), f4.mono (same_t s5)⟩ ans_nil (fun z => ?_)
      rw [h0, ev_nil]
      grind
    · have t1 := same_t s1
      have okc : ∀ i ≤ 4, ∀ j ≤ 4, okC (j + 1) i j 10 14 = true := by decide
      have one_r : ∀ (l : List Rat) (z : Rat), ev l z = ev l z * ev [(1 : Rat)] z := fun l z => by rw [ev1, Rat.mul_one]
      refine ⟨x, rfl, y, rfl, x, y, T', U', [1], T', U', 10, 14, rfl, hx.mono t1, hy.mono t1, tT, tU, Or.inr nU, (fun _ => by show (1 : Rat) ≠ 0; decide), (fun z => by cases z), tT, tU, one_r T', one_r U', cd_mono cT (by decide) (by decide), cd_mono cU (by decide) (by decide), by omega, by omega, okc _ lT _ lU, fun vg g H2 s2 hvg G => ?_⟩
      have t2 := t1.trans (same_t s2)
      have cg : Cd 153 153 g := gcd_cd (l := 3) (N := 8) (d := 10) (e := 14) tT tU h0 nU (cd_mono cT (by decide) (by decide)) cU (by omega) (by decide) G
      have ng := G.ld.ne
      have lg0 := List.length_pos_iff.mpr ng
      refine ⟨x, rfl, vg, rfl, x, vg, T', g, 10, 14, 153, 153, 4, rfl, hx.mono t2, hvg, G.tr, ng, cd_mono cT (by decide) (by decide), cg, by omega, by have := div_len tU nU G.tr ng (Classical.choose_spec G.r); omega, by omega, by decide, by decide, by decide, fun ta w1 n1 q1 r1 H3 s3 hta hw1 hn1 tq1 tr1 hev1 hlt1 hlq1 _ => ?_⟩
      have hr1 : r1 = [] := rest_none hev1 G.tr ng tr1 hlt1 G.l
      subst hr1
      have hat1 : atI [w1, n1] 0 = some w1 := rfl
      refine ⟨ta, _, 0, w1, rfl, rfl, hta, hat1, ?_⟩
      have t3 := t2.trans (same_t s3)
      refine ⟨y, rfl, vg, rfl, y, vg, U', g, 10, 14, 153, 153, 4, rfl, hy.mono t3, hvg.mono (same_t s3), G.tr, ng, cU, cg, by omega, by have := div_len tU nU G.tr ng (Classical.choose_spec G.r); omega, by omega, by decide, by decide, by decide, fun tb w2 n2 q2 r2 H4 s4 htb hw2 hn2 tq2 tr2 hev2 hlt2 hlq2 _ => ?_⟩
      have hr2 : r2 = [] := rest_none hev2 G.tr ng tr2 hlt2 G.r
      subst hr2
      have hat2 : atI [w2, n2] 0 = some w2 := rfl
      refine ⟨tb, _, 0, w2, rfl, rfl, htb, hat2, ?_⟩
      have ho : ∀ z, ev T' z = ev q1 z * ev g z := fun z => by
        have := hev1 z
        rw [ev_nil] at this
        rw [this]
        grind
      have ht : ∀ z, ev U' z = ev q2 z * ev g z := fun z => by
        have := hev2 z
        rw [ev_nil] at this
        rw [this]
        grind
      obtain ⟨A, hcross⟩ := ans_of G tq1 tq2 ho ht rfl u0
      obtain ⟨e, cE, cF, he, lE, lF⟩ := ans_cd tT tU u0 cT cU lT lU A hcross
      generalize hu : at0 U' 0 = u at A hcross cE cF lE lF he u0
      have zU := cd_qs cU (c := 15) (by decide) (by decide)
      have zu : Qz 15 u := by
        rw [← hu]
        cases U' with
        | nil => exact absurd rfl nU
        | cons c l => exact zU c List.mem_cons_self
      have iu : (1 : Rat) / u ≠ 0 := by grind
      have e20 : at0 q2 0 = u := by
        have := A.h0
        rw [at0_smul] at this
        grind
      have back : ∀ l : List Rat, smul u (smul (1 / u) l) = l := fun l => by
        unfold smul
        rw [List.map_map]
        refine (List.map_congr_left fun c _ => ?_).trans (List.map_id l)
        show u * (1 / u * c) = c
        grind
      have he62 : e ≤ 62 := by
        rcases he with rfl | ⟨rfl, _, _⟩ <;> decide
      have z1 : Qs 78 q1 := by
        have := cd_qs (cd_smul cE zu) (c := 78) (by omega) (by omega)
        rwa [back] at this
      have z2 : Qs 78 q2 := by
        have := cd_qs (cd_smul cF zu) (c := 78) (by omega) (by omega)
        rwa [back] at this
      rw [smul_len] at lE lF
      have nq2 : q2 ≠ [] := ne_of_at0 (i := 0) (by rw [e20]; exact u0)
      refine ⟨_, _, rfl, ?_⟩
      have hw2' := hw2
      obtain ⟨a, us, rfl, ha, hA⟩ := hw2'
      obtain ⟨v0, hat, hv0⟩ := fra_head hA nq2
      refine ⟨sz_of 2 rfl (by decide), fun p5 hp5 => ?_⟩
      have s5 := same_new (o := .tup [V.int 1, V.int 1]) hp5
      have f5 : FrT K (upd H4 p5 (.tup [V.int 1, V.int 1])) (.ref p5) 1 := ⟨p5, rfl, SqT.of upd_same⟩
      generalize upd H4 p5 (.tup [V.int 1, V.int 1]) = H5 at s5 f5
      refine ⟨V.ref a, rfl, a, us, 0, v0, rfl, rfl, same_seqT s5 ha, hat, ?_⟩
      refine ⟨V.ref p5, v0, 1, at0 q2 0, rfl, f5, hv0.mono (same_t s5), by rw [e20]; exact u0, qz1 (by decide), by rw [e20]; exact zu.mono (by decide), fun vb H6 s6 hvb => ?_⟩
      rw [e20] at hvb
      have t56 := same_t (s5.trans s6)
      refine ⟨w1, rfl, vb, rfl, w1, vb, q1, 1 / u, 78, 15, rfl, hw1.mono ((same_t s4).trans t56), hvb, z1, qz_inv zu u0, by decide, by decide, by omega, fun x1 r1 H7 s7 hx1 tx1 ex1 _ _ => ?_⟩
      have er1 : r1 = smul (1 / u) q1 := ev_inj tx1 (tr_smul' iu tq1) fun z => by rw [ex1, ev_smul]
      refine ⟨V.ref a, rfl, vb, rfl, V.ref a, vb, q2, 1 / u, 78, 15, rfl, hw2.mono (t56.trans (same_t s7)), hvb.mono (same_t s7), z2, qz_inv zu u0, by decide, by decide, by omega, fun x2 r2 H8 s8 hx2 tx2 ex2 _ _ => ?_⟩
      have er2 : r2 = smul (1 / u) q2 := ev_inj tx2 (tr_smul' iu tq2) fun z => by rw [ex2, ev_smul]
      refine ⟨sz_of 2 rfl (by decide), fun p9 hp9 => ?_⟩
      have s9 := same_new (o := .tup [x1, x2]) hp9
      have e9 : upd H8 p9 (.tup [x1, x2]) p9 = some (.tup [x1, x2]) := upd_same
      generalize upd H8 p9 (.tup [x1, x2]) = H9 at s9 e9
      subst er1
      subst er2
      exact q _ _ _ H9 (s1.trans (s2.trans (s3.trans (s4.trans (s5.trans (s6.trans (s7.trans (s8.trans s9)))))))) ⟨p9, x1, x2, rfl, SqT.of e9, hx1.mono (same_t (s8.trans s9)), hx2.mono (same_t s9)⟩ A hcross
end
end Vx
namespace Vx
open PySem PySem.Spec PyProof.Rows L2
local macro_rules | `(tactic| walk_at "cl") => `(tactic| first | assumption | exact Bz.mono (Bz.mul (by assumption) (by assumption)) (by decide) | rfl | omega | exact sz_of 0 rfl (by decide) | exact sz_of 1 rfl (by decide) | exact sz_of 2 rfl (by decide) | exact sz_of 3 rfl (by decide) | exact cmuly (by assumption) (by assumption) (by decide) | exact Bz.mono (Bz.mul (by assumption) (by assumption)) (by decide) | decide)
local macro_rules | `(tactic| walk_at "ex") => `(tactic| ((show Exists _); first | apply @Exists.intro V | apply @Exists.intro Int | apply @Exists.intro Addr | apply @Exists.intro (List V) | apply @Exists.intro Nat | apply @Exists.intro Str | apply @Exists.intro Bool | apply @Exists.intro (Option V) | apply @Exists.intro String | apply @Exists.intro Rat | apply @Exists.intro (List Rat)))
local macro_rules | `(tactic| walk_at "rd") => `(tactic| ((repeat (first | (walk_at "ex") | (apply And.intro; (focus (walk_at "cl"))))); (try dsimp only [])))
local macro_rules | `(tactic| walk_at "r0") => `(tactic| (repeat (first | (walk_at "ex") | (apply And.intro; (focus (walk_at "cl"))))))
section
variable {P : Program} {w : World} {K : PySem.W.Frag} {mg : Str → Option Value} {base : Heap}
/-- what is known of the sizes of an answer of the law -/
structure AnsZ (E F : List Rat) (e : Nat) : Prop where
  a : IsAns E F
  cE : Cd e e E
  cF : Cd e e F
  h : e = 29 ∨ (e = 62 ∧ E.length ≤ 3 ∧ F.length ≤ 3)
  lE : E.length ≤ 4
  lF : F.length ≤ 4
theorem AnsZ.le {E F : List Rat} {e : Nat} (h : AnsZ E F e) : e ≤ 62 := by
  rcases h.h with h | ⟨h, _, _⟩ <;> omega
theorem AnsZ.okc {E F : List Rat} {e : Nat} (h : AnsZ E F e) : okC (F.length + 1) E.length F.length e e = true := by
  have o1 : ∀ i ≤ 4, ∀ j ≤ 4, okC (j + 1) i j 29 29 = true := by decide
  have o2 : ∀ i ≤ 3, ∀ j ≤ 3, okC (j + 1) i j 62 62 = true := by decide
  rcases h.h with h1 | ⟨h1, h2, h3⟩
  · rw [h1]
    exact o1 _ h.lE _ h.lF
  · rw [h1]
    exact o2 _ h2 _ h3
/-- _law_is_answer -/
def spLIsAn (K : PySem.W.Frag) : Sp := fun vs H Q _ => ∃ (v : V) (E F : List Rat) (e : Nat), vs = [v] ∧ AnT K H v E F ∧ AnsZ E F e ∧ ∀ H', Same H H' → Q (.bl true) H'
theorem sc__law_is_answer : FnScope ["value"] ["value"] (defScope s__law_is_answer) := ⟨rfl, rfl, rfl, by decide +kernel, rfl, by decide +kernel, by decide +kernel⟩
theorem d__law_is_answer (W : FunIn K mg "_law_is_answer" s__law_is_answer) (T : Blt mg) (D_law_is_row : Df P w K mg base "_law_is_row" 35 ["value"] (spLIsRow K)) (D_law_is_led : Df P w K mg base "_law_is_led" 36 ["value"] (spLIsLed K)) (D_law_divisor : Df P w K mg base "_law_divisor" 37 ["one", "two"] (spLaDiv K)) : Df P w K mg base "_law_is_answer" 38 ["value"] (spLIsAn K) := by
  obtain ⟨f, fd, F, hm⟩ := W
  refine ⟨f, fd, F.ok sc__law_is_answer (fun vs H Q E h => ?_) (fun cdv A outer s H vs Q E hr h => ?_), hm, F.kp, F.binds fun _ _ _ _ _ _ us hl => match us, hl with | [_], _ => rfl⟩
  · obtain ⟨v, E, F, e, rfl, _⟩ := h
    rfl
  · obtain ⟨v, E', F', e, rfl, ⟨t, x1, x2, rfl, ht, h1, h2⟩, Z, q⟩ := h
    have A1 := Z.a
    have he := Z.le
    have nF := A1.ne
    have lE := Z.lE
    have lF := Z.lF
    refine ⟨_, (pss_cons (ps_if (PW.pt (pw_or (pt_not (pt_val (pe_callB call_isiTup (by rfl) T.n_isinstance (by decide +kernel) (pa_cons (pv 0) (pa_cons (pe_bltn (by rfl) T.n_tuple (by rfl) (v := .ty "tuple") rfl) pa_nil))))) (pw_or (pt_cmpR op_ne (pe_callB call_len_seq (by rfl) T.n_len (by decide +kernel) (pa_cons (pv 0) pa_nil)) pe_int (nomark _)) (pw_or (pt_not (pt_val (pe_d D_law_is_row (hr.mono (by decide)) rfl (pa_cons (pe_ix ix_tup (pv 0) pe_int (fun _ _ => rfl)) pa_nil)))) (pw_or1 (pt_not (pt_val (pe_d D_law_is_led (hr.mono (by decide)) rfl (pa_cons (pe_ix ix_tup (pv 0) pe_int (fun _ _ => rfl)) pa_nil))))))))) (pss_one (ps_ret pe_bl)) pss_nil)
        (pss_one (ps_ret (pe_cmpR op_eq (pe_callB call_len_seq (by rfl) T.n_len (by decide +kernel) (pa_cons (pe_d D_law_divisor (hr.mono (by decide)) rfl (pa_cons (pe_ix ix_tup (pv 0) pe_int (fun _ _ => rfl)) (pa_cons (pe_ix ix_tup (pv 0) pe_int (fun _ _ => rfl)) pa_nil))) pa_nil)) pe_int (nomark _))))), ?_⟩
    have hat0 : atI [x1, x2] 0 = some x1 := rfl
    have hat1 : atI [x1, x2] 1 = some x2 := rfl
    have htO : SqL K H t [x1, x2] ∨ SqT K H t [x1, x2] := Or.inr ht
    have tE := A1.tp
    have tF := A1.tq
    have f0 := A1.h0
    have zE : Qs 3900 E' := (cd_qs Z.cE (c := 63) (by omega) (by omega)).mono (by decide)
    have zF : Qs 3900 F' := (cd_qs Z.cF (c := 63) (by omega) (by omega)).mono (by decide)
    walk_at "rd"
    intro H1 s1
    have t1 := same_t s1
    have h2' := h2.mono t1
    have ht1 := samet_seqT t1 ht
    walk_at "rd"
    intro H2 s2
    have t2 := t1.trans (same_t s2)
    have ht2 := samet_seqT t2 ht
    refine ⟨true, rfl, ?_⟩
    have one_r : ∀ (l : List Rat) (z : Rat), ev l z = ev l z * ev [(1 : Rat)] z := fun l z => by rw [ev1, Rat.mul_one]
    refine ⟨V.ref t, rfl, t, _, 0, x1, rfl, rfl, ht2, hat0, V.ref t, rfl, t, _, 1, x2, rfl, rfl, ht2, hat1, ?_⟩
    refine ⟨x1, x2, E', F', [1], E', F', e, e, rfl, h1.mono t2, h2.mono t2, tE, tF, Or.inr nF, (fun _ => by show (1 : Rat) ≠ 0; decide), (fun z => by cases z), tE, tF, one_r E', one_r F', Z.cE, Z.cF, by omega, by omega, Z.okc, fun v g H3 s3 hv G => ?_⟩
    have e1 : g = [1] := Gcd.uniq A1.g G
    subst e1
    obtain ⟨a, us, rfl, ha, hA⟩ := hv
    have hL := hA.length
    refine ⟨a, us, rfl, Or.inr ha, rfl, ?_⟩
    have : us.length = 1 := hL
    rw [this]
    have e2 : decide (V.int ((1 : Nat) : Int) = V.int 1) = true := decide_eq_true rfl
    rw [e2]
    exact q H3 (s1.trans (s2.trans s3))
end
end Vx
namespace Vx
open PySem PySem.Spec PyProof.Rows L2
theorem IsAns.of_cross {T U E F E' F' : List Rat} (tU : Tr U) (nU : U ≠ []) (A : IsAns E F) (A' : IsAns E' F') (h : ∀ z, ev T z * ev F z = ev U z * ev E z) (h' : ∀ z, ev T z * ev F' z = ev U z * ev E' z) : E' = E ∧ F' = F :=
  A.uniq A' fun z => by
    have := ev_cancel (x := pmul E F') (y := pmul E' F) tU nU (fun z => by
      rw [ev_pmul, ev_pmul]
      have h1 := h z
      have h2 := h' z
      grind) z
    rwa [ev_pmul, ev_pmul] at this
theorem tr_1 : Tr [(1 : Rat)] := fun _ => by show (1 : Rat) ≠ 0; decide
theorem IsAns.nil1 : IsAns [] [(1 : Rat)] := ⟨fun h => absurd rfl h, tr_1, rfl, ⟨tr_1, ⟨0, rfl, fun j h => absurd h (Nat.not_lt_zero j)⟩, ⟨[], fun z => by rw [ev_nil, Rat.zero_mul]⟩, ⟨[1], fun z => by rw [ev1, Rat.one_mul]⟩, ⟨[], [1], fun z => by rw [ev_nil, ev1]; grind⟩⟩⟩
theorem cd_1 {a b : Nat} : Cd a b [1] := ⟨1, by decide, Nat.one_le_two_pow, fun x hx => ⟨1, by rw [List.mem_singleton.mp hx, Rat.one_mul]; rfl, Nat.one_le_two_pow⟩⟩
theorem ser_qs {T U xs : List Rat} {d e d2 e2 n B : Nat} (cT : Cd d e T) (cU : Cd d2 e2 U) (u0 : at0 U 0 ≠ 0) (S : Ser T U xs) (hl : xs.length ≤ n) (h1 : e + d2 + (e2 + 1) * n < B) (h2 : d + e2 * n < B) : Qs B xs := by
  obtain ⟨D1, D2, u, p1, b1, p2, b2, pu, bu, o1, o2, hx⟩ := ser_ov cT cU u0
  intro c hc
  obtain ⟨k, hk, e1⟩ := List.getElem_of_mem hc
  have h3 := hx _ S k hk
  rw [at0_some (by rw [List.getElem?_eq_getElem hk, e1])] at h3
  have p2 : ∀ a b : Nat, a ≤ b → 2 ^ a ≤ 2 ^ b := fun a b h => Nat.pow_le_pow_right (by decide) h
  refine h3.qz (Nat.mul_pos p1 (Nat.pow_pos pu)) ?_ ?_
  · have h4 : u ^ (k + 1) ≤ 2 ^ (e2 * n) := by
      refine Nat.le_trans (Nat.pow_le_pow_left bu _) ?_
      rw [← Nat.pow_mul]
      exact p2 _ _ (Nat.mul_le_mul_left _ (by omega))
    have h5 := Nat.mul_le_mul b1 h4
    rw [← Nat.pow_add] at h5
    exact Nat.lt_of_le_of_lt h5 (Nat.pow_lt_pow_right (by decide) h2)
  · have h4 : (e2 + 1) * k ≤ (e2 + 1) * n := Nat.mul_le_mul_left _ (by omega)
    exact Nat.pow_lt_pow_right (by decide) (by omega)
theorem ans_cd2 {O L E F : List Rat} (tO : Tr O) (tL : Tr L) (l0 : at0 L 0 ≠ 0) (cO : Cd 10 14 O) (cL : Cd 10 14 L) (lO : O.length ≤ 5) (lL : L.length ≤ 4) (A : IsAns E F) (hx : ∀ z, ev O z * ev F z = ev L z * ev E z) : Cd 1120 1120 E ∧ Cd 1120 1120 F := by
  have nL : L ≠ [] := ne_of_at0 l0
  by_cases nO : O = []
  · obtain ⟨e1, e2⟩ := IsAns.of_cross (T := O) (E := []) (F := [1]) tL nL IsAns.nil1 A (fun z => by rw [nO, ev_nil]; grind) hx
    rw [e1, e2]
    exact ⟨cd_nil, cd_1⟩
  · obtain ⟨g, G⟩ := gcd_ex tO tL (Or.inr nL)
    have ng := G.ld.ne
    have cg : Cd 180 180 g := gcd_cd (l := 4) (N := 9) tO tL nO nL cO cL (by omega) (by decide) G
    obtain ⟨x, hx1⟩ := G.l
    obtain ⟨y, hy1⟩ := G.r
    obtain ⟨o, to, no, eo, lo, _⟩ := mult_len G.tr ng tO nO hx1
    obtain ⟨t, tt, nt, et, lt, _⟩ := mult_len G.tr ng tL nL hy1
    have lg := List.length_pos_iff.mpr ng
    have ho : ∀ z, ev O z = ev o z * ev g z := fun z => by rw [hx1, eo]
    have ht : ∀ z, ev L z = ev t z * ev g z := fun z => by rw [hy1, et]
    obtain ⟨A2, hc⟩ := ans_of G to tt ho ht rfl l0
    obtain ⟨e1, e2⟩ := IsAns.of_cross tL nL A2 A hc hx
    have zL := cd_qs cL (c := 15) (by decide) (by decide)
    have zl : Qz 15 (at0 L 0) := by
      cases L with
      | nil => exact absurd rfl nL
      | cons c l => exact zL c List.mem_cons_self
    have zi := qz_inv zl l0
    have co := quo_cd (n := 5) tO G.tr to ng no ho cO cg (by omega)
    have ct := quo_cd (n := 5) tL G.tr tt ng nt ht cL cg (by omega)
    rw [e1, e2]
    exact ⟨cd_mono (cd_smul co zi) (by decide) (by decide), cd_mono (cd_smul ct zi) (by decide) (by decide)⟩
end Vx
namespace Vx
open PySem PySem.Spec PyProof.Rows L2
local macro_rules | `(tactic| walk_at "cl") => `(tactic| first | assumption | exact Bz.mono (Bz.mul (by assumption) (by assumption)) (by decide) | rfl | omega | exact sz_of 0 rfl (by decide) | exact sz_of 1 rfl (by decide) | exact sz_of 2 rfl (by decide) | exact sz_of 3 rfl (by decide) | exact cmuly (by assumption) (by assumption) (by decide) | exact Bz.mono (Bz.mul (by assumption) (by assumption)) (by decide) | decide)
local macro_rules | `(tactic| walk_at "ex") => `(tactic| ((show Exists _); first | apply @Exists.intro V | apply @Exists.intro Int | apply @Exists.intro Addr | apply @Exists.intro (List V) | apply @Exists.intro Nat | apply @Exists.intro Str | apply @Exists.intro Bool | apply @Exists.intro (Option V) | apply @Exists.intro String | apply @Exists.intro Rat | apply @Exists.intro (List Rat)))
local macro_rules | `(tactic| walk_at "rd") => `(tactic| ((repeat (first | (walk_at "ex") | (apply And.intro; (focus (walk_at "cl"))))); (try dsimp only [])))
local macro_rules | `(tactic| walk_at "r0") => `(tactic| (repeat (first | (walk_at "ex") | (apply And.intro; (focus (walk_at "cl"))))))
theorem rl_ne {a p : Addr} {H : Hp} (h : RlAt a H) (hp : H p = none) : p ≠ a := fun e => by
  obtain ⟨x, y, z, h⟩ := h
  rw [← e, hp] at h
  cases h
theorem qs_of_cd {a b c : Nat} {l : List Rat} (h : Cd a b l) (ha : a < c := by decide) (hb : b < c := by decide) : Qs c l := cd_qs h ha hb
section
variable {P : Program} {w : World} {K : PySem.W.Frag} {mg : Str → Option Value} {base : Heap}
def spLaterE (K : PySem.W.Frag) : Sp := fun vs H Q _ => ∃ (x : V) (qs : List Rat) (k : Nat), vs = [x, .int (k : Int)] ∧ RwT K H x qs ∧ qs.length < 900 ∧ k ≤ 10 ∧ ∀ v H', Same H H' → RwT K H' v (if qs = [] then [] else List.replicate k 0 ++ qs) → Q v H'
theorem d__law_laterE (W : FunIn K mg "_law_later" s__law_later) : Df P w K mg base "_law_later" 33 ["row", "by"] (spLaterE K) := by
  obtain ⟨f, fd, F, hm⟩ := W
  refine ⟨f, fd, F.ok sc__law_later (fun vs H Q E h => ?_) (fun cdv A outer s H vs Q E hr h => ?_), hm, F.kp, F.binds fun _ _ _ _ _ _ us hl => match us, hl with | [_, _], _ => rfl⟩
  · obtain ⟨x, qs, k, rfl, _⟩ := h
    rfl
  · obtain ⟨x, qs, k, rfl, hx, lq, hk, q⟩ := h
    refine ⟨_, (pss_one (ps_ret (pe_ifExp (pt_cmpR (op_neD (hu64 hr)) (pv 0) (pe_tup pa_nil) (nomark _)) (pe_op op_catA (pe_op op_repA (pe_tup (pa_cons (pe_tup (pa_cons pe_int (pa_cons pe_int pa_nil))) pa_nil)) (pv 1)) (pv 0)) (pe_tup pa_nil)))), ?_⟩
    refine ⟨x, rfl, sz_of 0 rfl (by decide), fun p0 hp0 => ?_⟩
    have s0 := same_new (o := .tup []) hp0
    have q0 : SqT K (upd H p0 (.tup [])) p0 [] := SqT.of upd_same
    generalize upd H p0 (.tup []) = H0 at s0 q0
    by_cases nq : qs = []
    · subst nq
      refine rNeD_rw (hx.mono (same_t s0)) (rwt_nil q0) ⟨false, congrArg V.bl (by rw [decide_eq_true rfl]; rfl), ?_⟩
      refine if_ff ?_
      refine ⟨sz_of 0 rfl (by decide), fun p1 hp1 => ?_⟩
      have s1 := same_new (o := .tup []) hp1
      exact q _ _ (s0.trans s1) (by rw [if_pos rfl]; exact rwt_nil (SqT.of upd_same))
    simp only [if_neg nq] at q
    refine rNeD_rw (hx.mono (same_t s0)) (rwt_nil q0) ⟨true, congrArg V.bl (by rw [decide_eq_false nq]; rfl), ?_⟩
    refine if_tt ?_
    refine ⟨sz_of 2 rfl (by decide), fun p1 hp1 => ?_⟩
    have s1 := same_new (o := .tup [V.int 0, V.int 1]) hp1
    have q1 : SqT K (upd H0 p1 (.tup [V.int 0, V.int 1])) p1 [V.int 0, V.int 1] := SqT.of upd_same
    generalize upd H0 p1 (.tup [V.int 0, V.int 1]) = H1 at s1 q1
    refine ⟨sz_of 1 rfl (by decide), fun p2 hp2 => ?_⟩
    have s2 := same_new (o := .tup [V.ref p1]) hp2
    have q2 : SqT K (upd H1 p2 (.tup [V.ref p1])) p2 [V.ref p1] := SqT.of upd_same
    have s12 := (s0.trans s1).trans s2
    have f1 : FrT K (upd H1 p2 (.tup [V.ref p1])) (.ref p1) 0 := ⟨p1, rfl, same_seqT s2 q1⟩
    generalize upd H1 p2 (.tup [V.ref p1]) = H2 at s2 q2 s12 f1
    have fin : ∀ v3 H3, Same H2 H3 → RwT K H3 v3 (List.replicate k 0) → rCatA K v3 x H3 Q := fun v3 H3 s3 hv3 => by
      refine rCatA_rw hv3 (hx.mono (same_t (s12.trans s3))) (by rw [List.length_replicate]; omega) fun v4 H4 s4 hv4 => ?_
      exact q v4 H4 ((s12.trans s3).trans s4) hv4
    have ef : ∀ j : Nat, (List.replicate j [V.ref p1]).flatten = List.replicate j (V.ref p1) := fun j => by
      induction j with
      | zero => rfl
      | succ j ih => rw [List.replicate_succ, List.flatten_cons, ih, List.replicate_succ]; rfl
    have hA : ∀ (H3 : Hp) (j : Nat), Same H2 H3 → FrA K H3 (List.replicate j (V.ref p1)) (List.replicate j 0) := fun H3 j s3 => by
      induction j with
      | zero => exact .nil
      | succ j ih => exact .cons (f1.mono (same_t s3)) ih
    refine ⟨V.int (k : Int), rfl, p2, (k : Int), _, rfl, rfl, q2, (by simp), by omega, by omega, (by show 1 ≤ 1000; decide), fun hk1 => ?_, fun hk1 p3 hp3 => ?_⟩
    · have : k = 1 := by omega
      subst this
      exact ⟨x, rfl, fin _ _ (Same.refl _) ⟨p2, _, rfl, q2, hA _ 1 (Same.refl _)⟩⟩
    · rw [Int.toNat_natCast, ef]
      have s3 := same_new (o := .tup (List.replicate k (V.ref p1))) hp3
      exact ⟨x, rfl, fin _ _ s3 ⟨p3, _, rfl, SqT.of upd_same, hA _ k s3⟩⟩
theorem qsd_one {c : Rat} (h : Qd c) (k : Nat) : Qsd (List.replicate k 0 ++ [c]) := fun x hx => by
  rcases List.mem_append.mp hx with h1 | h1
  · rw [(List.mem_replicate.mp h1).2]
    exact qd_int (i := 0) (by decide)
  · rw [List.mem_singleton.mp h1]
    exact h
theorem shaped_an (E F : List Rat) : SeqAt.shaped (.tuple [dRw E, dRw F]) = true := by
  have h1 := canLay_rw E
  have h2 := depth_rw E
  have h3 := canLay_rw F
  have h4 := depth_rw F
  unfold dRw SeqAt.shaped
  rw [Bool.and_eq_true]
  refine ⟨by simpa [PyData.canLay0, PyData.canLayAll0] using ⟨h1, h3⟩, decide_eq_true ?_⟩
  simp only [PyData.depth, PyData.depthAll]
  omega
theorem rEqD_an {x y : V} {E F E' F' : List Rat} {H : Hp} {Q : VK} (hx : AnT K H x E F) (hy : AnT K H y E' F') (h : Q (.bl (decide (E = E' ∧ F = F'))) H) : rEqD K x y H Q := by
  obtain ⟨t, x1, x2, rfl, ht, h1, h2⟩ := hx
  obtain ⟨t', y1, y2, rfl, ht', h1', h2'⟩ := hy
  refine ⟨.tuple [dRw E, dRw F], .tuple [dRw E', dRw F'], .tup ht (.cons (dp_rw h1) (.cons (dp_rw h2) .nil)), .tup ht' (.cons (dp_rw h1') (.cons (dp_rw h2') .nil)), shaped_an E F, shaped_an E' F', ?_⟩
  rw [show PyData.eqv (.tuple [dRw E, dRw F]) (.tuple [dRw E', dRw F']) = (PyData.eqvAll (E.map dFr) (E'.map dFr) && (PyData.eqvAll (F.map dFr) (F'.map dFr) && true)) from rfl, eqv_rw, eqv_rw, Bool.and_true, ← Bool.decide_and]
  exact h
theorem answ_call {tb : Addr} {x y : V} {ps qs : List Rat} {H : Hp} {Q : VK} {E0 : XK} (d e l N M m : Nat) (hx : RwT K H x ps) (hy : RwT K H y qs) (tp : Tr ps) (tq : Tr qs) (h0 : at0 qs 0 ≠ 0) (htb : H tb = some (tabX tb)) (cp : Cd d e ps) (cq : Cd d e qs)
    (nums : ShN d e l N M (bChain l (e + 1) N)) (md : MdN d e (bChain l (e + 1) N) M m) (hN : ps.length + qs.length ≤ N) (hM1 : ps.length ≤ M) (hM2 : qs.length ≤ M)
    (q : ∀ v E F H', Same H H' → AnT K H' v E F → IsAns E F → (∀ z, ev ps z * ev F z = ev qs z * ev E z) → E.length ≤ ps.length → F.length ≤ qs.length → Q v H') : spAnOf K tb [x, y] H Q E0 :=
  ⟨x, y, ps, qs, rfl, hx, hy, tp, tq, h0, htb, fun H1 s1 => ⟨x, y, ps, qs, d, e, l, N, M, m, rfl, hx.mono (same_t s1), hy.mono (same_t s1), tp, tq, h0, cp, cq, nums, md, hN, hM1, hM2, fun v E F H2 s2 hv A hc _ _ l1 l2 => q v E F H2 (s1.trans s2) hv A hc l1 l2⟩⟩
/-- a row and its sizes -/
structure RwZ (K : PySem.W.Frag) (H : Hp) (x : V) (ps : List Rat) (d e n : Nat) : Prop where
  w : RwT K H x ps
  t : Tr ps
  c : Cd d e ps
  l : ps.length ≤ n
theorem RwZ.mono {K : PySem.W.Frag} {H H' : Hp} {x : V} {ps : List Rat} {d e n : Nat} (s : SameT H H') (h : RwZ K H x ps d e n) : RwZ K H' x ps d e n := ⟨h.w.mono s, h.t, h.c, h.l⟩
def spRight (tb : Addr) : Sp := fun vs H Q _ => ∃ (a : Addr), vs = [.ref a] ∧ RlAt a H ∧ H tb = some (tabX tb) ∧ ∀ H', But a H H' → Q (.bl true) H'
theorem sc__law_right : FnScope ["reel", "top", "under", "more", "due", "wide", "low", "told", "many", "own", "other", "late", "way", "same"] ["reel"] (defScope s__law_right) := ⟨rfl, rfl, rfl, by decide +kernel, rfl, by decide +kernel, by decide +kernel⟩
theorem d__law_right {tb : Addr} (W : FunIn K mg "_law_right" s__law_right) (T : Blt mg) (sy : Sys base) (D_law_pull : Df P w K mg base "_law_pull" 1 ["reel", "many"] spPull) (D_law_one_of : Df P w K mg base "_law_one_of" 2 ["reel", "some"] (spOneOf K)) (D_law_drawn : Df P w K mg base "_law_drawn" 36 ["reel", "most"] (spDrawn K)) (D_law_under : Df P w K mg base "_law_under" 38 ["reel", "most"] (spUnd K)) (D_law_answer : Df P w K mg base "_law_answer" 38 ["top", "under"] (spLAns K)) (D_law_product : Df P w K mg base "_law_product" 35 ["one", "two"] (spProd K)) (D_law_is_answer : Df P w K mg base "_law_is_answer" 38 ["value"] (spLIsAn K)) (D_law_numbers : Df P w K mg base "_law_numbers" 35 ["top", "under", "many"] (spLNm K)) (D_law_scaled : Df P w K mg base "_law_scaled" 35 ["row", "by"] (spScale K)) (D_law_later : Df P w K mg base "_law_later" 33 ["row", "by"] (spLaterE K)) (Kanswer_of : Dk P w K mg base "answer_of" 39 ["row", "other"] "other" "row" (spAnOf K tb)) (Kis_answer : Dj P w K mg base "is_answer" 38 ["value"] "value" (spIsAn K tb)) (Kfirst_numbers : Dk P w K mg base "first_numbers" 40 ["answer", "number"] "number" "answer" (spNums K tb)) : Dg P w K mg base "_law_right" 42 ["reel"] (spRight tb) := by
  have Danswer_of := Kanswer_of.df
  have Dis_answer := Kis_answer.df
  have Dfirst_numbers := Kfirst_numbers.df
  obtain ⟨f, fd, F, hm⟩ := W
  refine ⟨f, fd, gok F sc__law_right (fun vs H Q E h => ?_) (fun cdv A outer s H vs Q E ng hr h => ?_), hm, F.kp, F.binds fun _ _ _ _ _ _ us hl => match us, hl with | [_], _ => rfl⟩
  · obtain ⟨a, rfl, _⟩ := h
    rfl
  · obtain ⟨r, rfl, hR, htb, q⟩ := h
    have nd := sc__law_right.nd
    refine ⟨_, (pss_cons (ps_par3 (i := 1) (j := 2) (l := 3) (by rfl) nd rfl rfl rfl (by decide) (by decide) (by decide) rfl rfl rfl (pa_cons (pe_d D_law_drawn (hr.mono (by decide)) rfl (pa_cons (pv 0) (pa_cons pe_int pa_nil))) (pa_cons (pe_d D_law_under (hr.mono (by decide)) rfl (pa_cons (pv 0) (pa_cons pe_int pa_nil))) (pa_cons (pe_d D_law_under (hr.mono (by decide)) rfl (pa_cons (pv 0) (pa_cons pe_int pa_nil))) pa_nil))) (by rfl))
        (pss_cons (ps_set (i := 4) nd rfl (Or.inl rfl) (pe_d D_law_answer (hr.mono (by decide)) rfl (pa_cons (pv 1) (pa_cons (pv 2) pa_nil))))
        (pss_cons (ps_par (i := 5) (j := 6) (by rfl) nd rfl rfl (by decide) rfl rfl (pa_cons (pe_d D_law_product (hr.mono (by decide)) rfl (pa_cons (pv 1) (pa_cons (pv 3) pa_nil))) (pa_cons (pe_d D_law_product (hr.mono (by decide)) rfl (pa_cons (pv 2) (pa_cons (pv 3) pa_nil))) pa_nil)) (by rfl))
        (pss_cons (ps_set (i := 7) nd rfl (Or.inl rfl) (pe_lst (pa_cons (pe_d Danswer_of (hr.mono (by decide)) rfl (pa_cons (pv 1) (pa_cons (pv 2) pa_nil))) (pa_cons (pe_kw2 Kanswer_of (hr.mono (by decide)) rfl (pk_cons (pv 6) (pk_cons (pv 5) pk_nil))) (pa_cons (pe_d Danswer_of (hr.mono (by decide)) rfl (pa_cons (pe_ix ix_tup (pv 4) pe_int (fun _ _ => rfl)) (pa_cons (pe_ix ix_tup (pv 4) pe_int (fun _ _ => rfl)) pa_nil))) pa_nil)))))
        (pss_cons (ps_if (PW.pt (pw_or (pt_cmpR op_ne (pe_callB (call_repr sy ng (hu64 hr)) (by rfl) T.n_repr (by decide +kernel) (pa_cons (pv 7) pa_nil)) (pe_callB (call_repr sy ng (hu64 hr)) (by rfl) T.n_repr (by decide +kernel) (pa_cons (pe_op op_rep (pe_lst (pa_cons (pv 4) pa_nil)) pe_int) pa_nil)) (nomark _)) (pw_or1 (pt_not (pt_val (pe_d D_law_is_answer (hr.mono (by decide)) rfl (pa_cons (pv 4) pa_nil))))))) (pss_one (ps_ret pe_bl)) pss_nil)
        (pss_cons (ps_if (pt_cmpR op_ne (pe_callB (call_repr sy ng (hu64 hr)) (by rfl) T.n_repr (by decide +kernel) (pa_cons (pe_lst (pa_cons (pe_d Dis_answer (hr.mono (by decide)) rfl (pa_cons (pv 4) pa_nil)) (pa_cons (pe_kw1 Kis_answer (hr.mono (by decide)) rfl (pk_cons (pe_ix ix_list (pv 7) pe_int (fun _ _ => rfl)) pk_nil)) (pa_cons (pe_d Danswer_of (hr.mono (by decide)) rfl (pa_cons (pe_tup pa_nil) (pa_cons (pv 2) pa_nil))) pa_nil)))) pa_nil)) (pe_callB (call_repr sy ng (hu64 hr)) (by rfl) T.n_repr (by decide +kernel) (pa_cons (pe_lst (pa_cons pe_bl (pa_cons pe_bl (pa_cons (pe_tup (pa_cons (pe_tup pa_nil) (pa_cons (pe_tup (pa_cons (pe_tup (pa_cons pe_int (pa_cons pe_int pa_nil))) pa_nil)) pa_nil))) pa_nil)))) pa_nil)) (nomark _)) (pss_one (ps_ret pe_bl)) pss_nil)
        (pss_cons (ps_set (i := 8) nd rfl (Or.inl rfl) (pe_d D_law_one_of (hr.mono (by decide)) rfl (pa_cons (pv 0) (pa_cons (pe_lst (pa_cons pe_int (pa_cons pe_int (pa_cons (pe_d D_law_pull (hr.mono (by decide)) rfl (pa_cons (pv 0) (pa_cons pe_int pa_nil))) (pa_cons pe_int pa_nil))))) pa_nil))))
        (pss_cons (ps_set (i := 9) nd rfl (Or.inl rfl) (pe_d D_law_numbers (hr.mono (by decide)) rfl (pa_cons (pv 1) (pa_cons (pv 2) (pa_cons (pv 8) pa_nil)))))
        (pss_cons (ps_if (pt_cmpR op_ne (pe_callB (call_repr sy ng (hu64 hr)) (by rfl) T.n_repr (by decide +kernel) (pa_cons (pe_lst (pa_cons (pe_d Dfirst_numbers (hr.mono (by decide)) rfl (pa_cons (pv 4) (pa_cons (pv 8) pa_nil))) (pa_cons (pe_kw2 Kfirst_numbers (hr.mono (by decide)) rfl (pk_cons (pv 8) (pk_cons (pv 4) pk_nil))) pa_nil))) pa_nil)) (pe_callB (call_repr sy ng (hu64 hr)) (by rfl) T.n_repr (by decide +kernel) (pa_cons (pe_lst (pa_cons (pv 9) (pa_cons (pv 9) pa_nil))) pa_nil)) (nomark _)) (pss_one (ps_ret pe_bl)) pss_nil)
        (pss_cons (ps_par (i := 10) (j := 11) (by rfl) nd rfl rfl (by decide) rfl rfl (pa_cons (pe_d D_law_drawn (hr.mono (by decide)) rfl (pa_cons (pv 0) (pa_cons pe_int pa_nil))) (pa_cons (pe_d D_law_under (hr.mono (by decide)) rfl (pa_cons (pv 0) (pa_cons pe_int pa_nil))) pa_nil)) (by rfl))
        (pss_cons (ps_set (i := 12) nd rfl (Or.inl rfl) (pe_d D_law_pull (hr.mono (by decide)) rfl (pa_cons (pv 0) (pa_cons pe_int pa_nil))))
        (pss_cons (ps_if (pt_cmpR op_eq (pv 12) pe_int (nomark _)) (pss_one (ps_par (i := 10) (j := 11) (by rfl) nd rfl rfl (by decide) rfl rfl (pa_cons (pe_d D_law_scaled (hr.mono (by decide)) rfl (pa_cons (pv 5) (pa_cons (pe_tup (pa_cons (pe_un un_neg pe_int) (pa_cons pe_int pa_nil))) pa_nil))) (pa_cons (pe_d D_law_scaled (hr.mono (by decide)) rfl (pa_cons (pv 6) (pa_cons (pe_tup (pa_cons (pe_un un_neg pe_int) (pa_cons pe_int pa_nil))) pa_nil))) pa_nil)) (by rfl))) pss_nil)
        (pss_cons (ps_if (pt_cmpR op_eq (pv 12) pe_int (nomark _)) (pss_one (ps_set (i := 10) nd rfl (Or.inl rfl) (pe_d D_law_later (hr.mono (by decide)) rfl (pa_cons (pv 1) (pa_cons pe_int pa_nil))))) pss_nil)
        (pss_cons (ps_set (i := 13) nd rfl (Or.inl rfl) (pe_cmpR (op_eqD (hu64 hr)) (pe_d D_law_product (hr.mono (by decide)) rfl (pa_cons (pv 1) (pa_cons (pv 11) pa_nil))) (pe_d D_law_product (hr.mono (by decide)) rfl (pa_cons (pv 10) (pa_cons (pv 2) pa_nil))) (nomark _)))
        (pss_cons (ps_set (i := 7) nd rfl (Or.inl rfl) (pe_d Danswer_of (hr.mono (by decide)) rfl (pa_cons (pv 10) (pa_cons (pv 11) pa_nil))))
        (pss_cons (ps_if (pt_cmpR op_ne (pe_cmpR (op_eqD (hu64 hr)) (pv 7) (pv 4) (nomark _)) (pv 13) (nomark _)) (pss_one (ps_ret pe_bl)) pss_nil)
        (pss_one (ps_ret (pe_cmpR op_eq (pv 13) (pe_cmpR (op_eqD (hu64 hr)) (pe_d Dfirst_numbers (hr.mono (by decide)) rfl (pa_cons (pv 7) (pa_cons pe_int pa_nil))) (pe_d Dfirst_numbers (hr.mono (by decide)) rfl (pa_cons (pv 4) (pa_cons pe_int pa_nil))) (nomark _)) (nomark _)))))))))))))))))))), ?_⟩
    refine seq_cut (fun σ' H' => ∃ (vt vu vm : V) (t u m : List Rat), σ' = [some (V.ref r), some (vt), some (vu), some (vm), none, none, none, none, none, none, none, none, none, none] ∧ RlAt r H' ∧ But r H H' ∧ RwZ K H' vt t 6 10 4 ∧ Qsd t ∧ RwZ K H' vu u 10 14 4 ∧ RwZ K H' vm m 10 14 3 ∧ at0 u 0 ≠ 0 ∧ at0 m 0 ≠ 0) (fun nx hnx => ?_) ?_
    · refine ⟨V.ref r, rfl, r, 4, rfl, hR, by decide, fun vt t H1 hR1 hB1 h1 t1 z1 l1 => ?_⟩
      refine ⟨V.ref r, rfl, r, 3, rfl, hR1, by decide, fun vu u H2 hR2 hB2 h2 t2 u0 c2 l2 => ?_⟩
      refine ⟨V.ref r, rfl, r, 2, rfl, hR2, by decide, fun vm m H3 hR3 hB3 h3 t3 m0 c3 l3 => ?_⟩
      have st3 := but_samet hR2 hB3
      exact ⟨_, _, _, rfl, hnx _ _ ⟨vt, vu, vm, t, u, m, rfl, hR3, but_trans hB1 (but_trans hB2 hB3), ⟨h1.mono ((but_samet hR1 hB2).trans st3), t1, cd_of_qd z1, l1⟩, z1, ⟨h2.mono st3, t2, c2, l2⟩, ⟨h3, t3, c3, l3⟩, u0, m0⟩⟩
    rintro _ H1 ⟨vt, vu, vm, t, u, m, rfl, hR1, hB1, RT, qt, RU, RM, u0, m0⟩
    have htb1 := tab_mono (but_samet hR hB1) htb
    have nu : u ≠ [] := ne_of_at0 u0
    have nm : m ≠ [] := ne_of_at0 m0
    refine seq_cut (fun σ' H' => ∃ (vd : V) (E' F' : List Rat) (e : Nat), σ' = [some (V.ref r), some (vt), some (vu), some (vm), some (vd), none, none, none, none, none, none, none, none, none] ∧ Same H1 H' ∧ AnT K H' vd E' F' ∧ AnsZ E' F' e ∧ ∀ z, ev t z * ev F' z = ev u z * ev E' z) (fun nx hnx => ?_) ?_
    · refine ⟨vt, rfl, vu, rfl, vt, vu, t, u, rfl, RT.w, RU.w, RT.t, RU.t, u0, RT.c, RU.c, RT.l, RU.l, fun v E1 F1 H2 s2 hv A hx => ?_⟩
      obtain ⟨e, cE, cF, he, lE, lF⟩ := ans_cd RT.t RU.t u0 RT.c RU.c RT.l RU.l A hx
      exact hnx _ _ ⟨v, E1, F1, e, rfl, s2, hv, ⟨A, cE, cF, he, lE, lF⟩, hx⟩
    rintro _ H2 ⟨vd, E', F', e, rfl, s2, hd, Z, hx⟩
    have t2 := same_t s2
    refine seq_cut (fun σ' H' => ∃ (vw vl : V) (wi lo : List Rat), σ' = [some (V.ref r), some (vt), some (vu), some (vm), some (vd), some (vw), some (vl), none, none, none, none, none, none, none] ∧ Same H2 H' ∧ RwZ K H' vw wi 20 30 6 ∧ RwZ K H' vl lo 20 30 6 ∧ (∀ z, ev wi z = ev t z * ev m z) ∧ (∀ z, ev lo z = ev u z * ev m z)) (fun nx hnx => ?_) ?_
    · refine ⟨vt, rfl, vm, rfl, vt, vm, t, m, 4, 15, rfl, RT.w.mono t2, RM.w.mono t2, qt.z, qs_of_cd RM.c, (by have := RT.l; omega), (by have := RM.l; omega), bProd_le2 RT.l (by decide), fun vw wi H3 s3 hw tw ew _ _ => ?_⟩
      have t3 := t2.trans (same_t s3)
      refine ⟨vu, rfl, vm, rfl, vu, vm, u, m, 15, 15, rfl, RU.w.mono t3, RM.w.mono t3, qs_of_cd RU.c, qs_of_cd RM.c, (by have := RU.l; omega), (by have := RM.l; omega), bProd_le2 RU.l (by decide), fun vl lo H4 s4 hl tl el _ _ => ?_⟩
      exact ⟨_, _, rfl, hnx _ _ ⟨vw, vl, wi, lo, rfl, s3.trans s4, ⟨hw.mono (same_t s4), tw, cd_mono (cd_prod (k := 2) RT.c RM.c RT.l RT.t RM.t tw ew) (by decide) (by decide), prod_len RT.t RM.t tw ew RT.l RM.l⟩, ⟨hl, tl, cd_prod (k := 2) RU.c RM.c RU.l RU.t RM.t tl el, prod_len RU.t RM.t tl el RU.l RM.l⟩, ew, el⟩⟩
    rintro _ H3 ⟨vw, vl, wi, lo, rfl, s3, RW, RL, ew, el⟩
    have t3 := t2.trans (same_t s3)
    have lo0 : at0 lo 0 ≠ 0 := by
      rw [at0_mul el]
      intro z
      rcases Rat.mul_eq_zero.mp z with z | z
      · exact u0 z
      · exact m0 z
    have nlo : lo ≠ [] := ne_of_at0 lo0
    have hxw : ∀ z, ev wi z * ev F' z = ev lo z * ev E' z := fun z => by
      rw [ew, el]
      have := hx z
      grind
    have he := Z.le
    have cE62 : Cd 62 62 E' := cd_mono Z.cE he he
    have cF62 : Cd 62 62 F' := cd_mono Z.cF he he
    have f0 : at0 F' 0 ≠ 0 := by rw [Z.a.h0]; decide
    refine seq_cut (fun σ' H' => ∃ (l : Addr) (y1 y2 y3 : V), σ' = [some (V.ref r), some (vt), some (vu), some (vm), some (vd), some (vw), some (vl), some (V.ref l), none, none, none, none, none, none] ∧ Same H3 H' ∧ H' l = some (.lst [y1, y2, y3]) ∧ AnT K H' y1 E' F' ∧ AnT K H' y2 E' F' ∧ AnT K H' y3 E' F') (fun nx hnx => ?_) ?_
    · refine ⟨vt, rfl, vu, rfl, answ_call 10 14 3 8 4 15 (RT.w.mono t3) (RU.w.mono t3) RT.t RU.t u0 (tab_mono t3 htb1) (cd_mono RT.c (by decide) (by decide)) RU.c (by unfold ShN; decide) (by unfold MdN; decide) (by have := RT.l; have := RU.l; omega) RT.l RU.l fun y1 E1 F1 H4 s4 h4 A1 hx1 _ _ => ?_⟩
      obtain ⟨i1, i2⟩ := IsAns.of_cross RU.t nu Z.a A1 hx hx1
      subst i1
      subst i2
      have t4 := t3.trans (same_t s4)
      refine ⟨vl, rfl, vw, rfl, vl, vw, rfl, answ_call 20 30 4 12 6 31 (RW.w.mono (same_t s4)) (RL.w.mono (same_t s4)) RW.t RL.t lo0 (tab_mono t4 htb1) RW.c RL.c (by unfold ShN; decide) (by unfold MdN; decide) (by have := RW.l; have := RL.l; omega) RW.l RL.l fun y2 E2 F2 H5 s5 h5 A2 hx2 _ _ => ?_⟩
      obtain ⟨i1, i2⟩ := IsAns.of_cross RL.t nlo Z.a A2 hxw hx2
      subst i1
      subst i2
      have s45 := s4.trans s5
      obtain ⟨td, d1, d2, ed, htd, hd1, hd2⟩ := hd.mono ((same_t s3).trans (same_t s45))
      have B0 : atI [d1, d2] 0 = some d1 := rfl
      have B1 : atI [d1, d2] 1 = some d2 := rfl
      refine ⟨vd, rfl, td, _, 0, _, ed, rfl, htd, B0, vd, rfl, td, _, 1, _, ed, rfl, htd, B1, answ_call 62 62 3 8 4 63 hd1 hd2 Z.a.tp Z.a.tq f0 (tab_mono (t3.trans (same_t s45)) htb1) cE62 cF62 (by unfold ShN; decide) (by unfold MdN; decide) (by have := Z.lE; have := Z.lF; omega) Z.lE Z.lF fun y3 E3 F3 H6 s6 h6 A3 hx3 _ _ => ?_⟩
      obtain ⟨i1, i2⟩ := IsAns.of_cross Z.a.tq Z.a.ne Z.a A3 (fun z => Rat.mul_comm _ _) hx3
      subst i1
      subst i2
      refine ⟨sz_of 3 rfl (by decide), fun l hl => ?_⟩
      have s7 := same_new (o := .lst [y1, y2, y3]) hl
      exact hnx _ _ ⟨l, y1, y2, y3, rfl, s45.trans (s6.trans s7), upd_same, h4.mono (same_t (s5.trans (s6.trans s7))), h5.mono (same_t (s6.trans s7)), h6.mono (same_t s7)⟩
    rintro _ H4 ⟨l, y1, y2, y3, rfl, s4, hl, hy1, hy2, hy3⟩
    have ssH : Same H2 H4 := s3.trans s4
    have t4 := t2.trans (same_t ssH)
    have hR4 := same_rl hR1 (s2.trans ssH)
    have zE := (qs_of_cd cE62 (c := 63)).mono (show 63 ≤ 1900 by decide)
    have zF := (qs_of_cd cF62 (c := 63)).mono (show 63 ≤ 1900 by decide)
    have lE := Z.lE
    have lF := Z.lF
    have hd4 := hd.mono (same_t ssH)
    have RT4 := RT.mono t4
    have RU4 := RU.mono t4
    have RW4 := RW.mono (same_t s4)
    have RL4 := RL.mono (same_t s4)
    have htb4 := tab_mono t4 htb1
    have hB4 := but_trans hB1 (same_but r (s2.trans ssH))
    clear RT RU RW RL htb1 hB1 hR1 t2 t3 t4 ssH s2 s3 s4 hd
    obtain ⟨D, hD⟩ : ∃ D, PyData.tuple [dRw E', dRw F'] = D := ⟨_, rfl⟩
    have szD : Sz D _ _ := hD ▸ ((sz_rw zE (show E'.length ≤ 60 by omega)).cons ((sz_rw zF (show F'.length ≤ 60 by omega)).cons SzA.nil)).tup
    have rpD : ∀ {H : Hp} {v : V}, AnT K H v E' F' → Rp K H v D := fun h => hD ▸ h.rp
    refine seq_cut (fun σ' H' => σ' = [some (V.ref r), some (vt), some (vu), some (vm), some (vd), some (vw), some (vl), some (V.ref l), none, none, none, none, none, none] ∧ Same H4 H') (fun nx hnx => ?_) ?_
    · have ok1 : Okd (.list [D, D, D]) := ((szD.cons (szD.cons (szD.cons SzA.nil))).lst).ok (by decide) (by decide)
      refine ⟨V.ref l, rfl, _, _, rfl, Rp.lst (SqL.of hl) (RpA.cons (rpD hy1) (RpA.cons (rpD hy2) (RpA.cons (rpD hy3) RpA.nil))), ok1.1, ok1.2.1, ok1.fits, ?_⟩
      obtain ⟨sx, hsx⟩ : ∃ x, PyData.shown (.list [D, D, D]) = x := ⟨_, rfl⟩
      rw [hsx]
      refine ⟨vd, rfl, sz_of 1 rfl (by decide), fun p1 hp1 => ?_⟩
      have s5 := same_new (o := .lst [vd]) hp1
      have e5 : upd H4 p1 (.lst [vd]) p1 = some (.lst [vd]) := upd_same
      generalize upd H4 p1 (.lst [vd]) = H5 at s5 e5
      refine rep_qc (k := 3) (ys := [vd, vd, vd]) rfl e5 (by decide) (Nat.le_of_ble_eq_true rfl) rfl (fun p2 hp2 => ?_)
      have s6 := same_new (o := .lst [vd, vd, vd]) hp2
      have e6 : upd H5 p2 (.lst [vd, vd, vd]) p2 = some (.lst [vd, vd, vd]) := upd_same
      generalize upd H5 p2 (.lst [vd, vd, vd]) = H6 at s6 e6
      have hd6 := hd4.mono (same_t (s5.trans s6))
      refine ⟨p2, _, rfl, Rp.lst (SqL.of e6) (RpA.cons (rpD hd6) (RpA.cons (rpD hd6) (RpA.cons (rpD hd6) RpA.nil))), ok1.1, ok1.2.1, ok1.fits, ?_⟩
      rw [hsx]
      refine ⟨rfl, _, rfl, ?_⟩
      refine ne_str_same ?_
      refine ⟨vd, rfl, vd, E', F', e, rfl, hd6, Z, fun H7 s7 => ⟨true, rfl, ?_⟩⟩
      exact hnx _ _ ⟨rfl, s5.trans (s6.trans s7)⟩
    rintro _ H5 ⟨rfl, s5⟩
    have t5 := same_t s5
    have shn : ShN 62 62 3 8 4 1 := by unfold ShN; decide
    have l8 : E'.length + F'.length ≤ 8 := by omega
    refine seq_cut (fun σ' H' => σ' = [some (V.ref r), some (vt), some (vu), some (vm), some (vd), some (vw), some (vl), some (V.ref l), none, none, none, none, none, none] ∧ Same H5 H') (fun nx hnx => ?_) ?_
    · refine ⟨vd, rfl, vd, E', F', 62, 62, 3, 8, 4, rfl, hd4.mono t5, Z.a, tab_mono t5 htb4, cE62, cF62, shn, l8, lE, lF, fun H6 s6 => ?_⟩
      have t6 := t5.trans (same_t s6)
      have at1 : atI [y1, y2, y3] 1 = some y2 := rfl
      refine ⟨V.ref l, rfl, l, _, 1, y2, rfl, rfl, SqL.of ((s5.trans s6) _ _ hl), at1, y2, rfl, y2, E', F', 62, 62, 3, 8, 4, rfl, hy2.mono t6, Z.a, tab_mono t6 htb4, cE62, cF62, shn, l8, lE, lF, fun H7 s7 => ?_⟩
      have t7 := t6.trans (same_t s7)
      refine ⟨sz_of 0 rfl (by decide), fun p8 hp8 => ?_⟩
      have s8 := same_new (o := .tup []) hp8
      have e8 : upd H7 p8 (.tup []) p8 = some (.tup []) := upd_same
      generalize upd H7 p8 (.tup []) = H8 at s8 e8
      have t8 := t7.trans (same_t s8)
      refine ⟨vu, rfl, answ_call 10 14 3 8 4 15 (rwt_nil (SqT.of e8)) (RU4.w.mono t8) tr_nil RU4.t u0 (tab_mono t8 htb4) cd_nil RU4.c (by unfold ShN; decide) (by unfold MdN; decide) (by have := RU4.l; show 0 + _ ≤ _; omega) (Nat.zero_le _) RU4.l fun y9 E9 F9 H9 s9 h9 A9 hx9 _ _ => ?_⟩
      obtain ⟨i1, i2⟩ := IsAns.of_cross (E := []) (F := [1]) RU4.t nu IsAns.nil1 A9 (fun z => by rw [ev_nil]; grind) hx9
      subst i1
      subst i2
      refine ⟨sz_of 3 rfl (by decide), fun p10 hp10 => ?_⟩
      have s10 := same_new (o := .lst [V.bl true, V.bl true, y9]) hp10
      have e10 : upd H9 p10 (.lst [V.bl true, V.bl true, y9]) p10 = some (.lst [V.bl true, V.bl true, y9]) := upd_same
      generalize upd H9 p10 (.lst [V.bl true, V.bl true, y9]) = H10 at s10 e10
      have h10 := (h9.mono (same_t s10)).rp
      have ok1 : Okd (.list [.bool true, .bool true, .tuple [dRw [], dRw [1]]]) := (((sz_bl true).cons ((sz_bl true).cons ((((sz_rw (r := []) (fun c h => by cases h) (by decide)).cons ((sz_rw (r := [1]) (fun c h => by rw [List.mem_singleton.mp h]; exact qz1 (by decide)) (by decide)).cons SzA.nil)).tup).cons SzA.nil))).lst).ok (by decide) (by decide)
      refine ⟨p10, _, rfl, Rp.lst (SqL.of e10) (RpA.cons (Rp.bl true) (RpA.cons (Rp.bl true) (RpA.cons h10 RpA.nil))), ok1.1, ok1.2.1, ok1.fits, ?_⟩
      obtain ⟨sx, hsx⟩ : ∃ x, PyData.shown (.list [.bool true, .bool true, .tuple [dRw [], dRw [1]]]) = x := ⟨_, rfl⟩
      rw [hsx]
      refine ⟨sz_of 0 rfl (by decide), fun p11 hp11 => ?_⟩
      have s11 := same_new (o := .tup []) hp11
      have h11 : RwT K (upd H10 p11 (.tup [])) (.ref p11) [] := rwt_nil (SqT.of upd_same)
      generalize upd H10 p11 (.tup []) = H11 at s11 h11
      refine ⟨sz_of 2 rfl (by decide), fun p12 hp12 => ?_⟩
      have s12 := same_new (o := .tup [V.int 1, V.int 1]) hp12
      have h12 : FrT K (upd H11 p12 (.tup [V.int 1, V.int 1])) (.ref p12) 1 := ⟨p12, rfl, SqT.of upd_same⟩
      generalize upd H11 p12 (.tup [V.int 1, V.int 1]) = H12 at s12 h12
      refine ⟨sz_of 1 rfl (by decide), fun p13 hp13 => ?_⟩
      have s13 := same_new (o := .tup [V.ref p12]) hp13
      have h13 : RwT K (upd H12 p13 (.tup [V.ref p12])) (.ref p13) [1] := ⟨p13, _, rfl, SqT.of upd_same, .cons (h12.mono (same_t s13)) .nil⟩
      generalize upd H12 p13 (.tup [V.ref p12]) = H13 at s13 h13
      refine ⟨sz_of 2 rfl (by decide), fun p14 hp14 => ?_⟩
      have s14 := same_new (o := .tup [V.ref p11, V.ref p13]) hp14
      have h14 : AnT K (upd H13 p14 (.tup [V.ref p11, V.ref p13])) (.ref p14) [] [1] := ⟨p14, V.ref p11, V.ref p13, rfl, SqT.of upd_same, h11.mono (same_t (s12.trans (s13.trans s14))), h13.mono (same_t s14)⟩
      generalize upd H13 p14 (.tup [V.ref p11, V.ref p13]) = H14 at s14 h14
      refine ⟨sz_of 3 rfl (by decide), fun p15 hp15 => ?_⟩
      have s15 := same_new (o := .lst [V.bl true, V.bl true, V.ref p14]) hp15
      refine ⟨p15, _, rfl, Rp.lst (SqL.of upd_same) (RpA.cons (Rp.bl true) (RpA.cons (Rp.bl true) (RpA.cons ((h14.mono (same_t s15)).rp) RpA.nil))), ok1.1, ok1.2.1, ok1.fits, ?_⟩
      rw [hsx]
      refine ⟨rfl, _, rfl, ?_⟩
      refine ne_str_same ?_
      exact hnx _ _ ⟨rfl, s6.trans (s7.trans (s8.trans (s9.trans (s10.trans (s11.trans (s12.trans (s13.trans (s14.trans s15))))))))⟩
    rintro _ H6 ⟨rfl, s6⟩
    clear hl hy1 hy2 hy3
    have ssA := s5.trans s6
    have tA := same_t ssA
    have hR6 := same_rl hR4 ssA
    refine seq_cut (fun σ' H' => ∃ n : Nat, σ' = [some (V.ref r), some (vt), some (vu), some (vm), some (vd), some (vw), some (vl), some (V.ref l), some (V.int (n : Int)), none, none, none, none, none] ∧ RlAt r H' ∧ But r H6 H' ∧ n ≤ 20) (fun nx hnx => ?_) ?_
    · refine ⟨V.ref r, rfl, V.ref r, rfl, r, 13, rfl, hR6, by decide, by decide, fun d H7 d0 d1 hR7 hB7 => ?_⟩
      refine ⟨sz_of 4 rfl (by decide), fun p8 hp8 => ?_⟩
      have s8 := same_new (o := .lst [V.int 0, V.int 1, V.int d, V.int 20]) hp8
      have hne : p8 ≠ r := rl_ne hR7 hp8
      have e8 : upd H7 p8 (.lst [V.int 0, V.int 1, V.int d, V.int 20]) p8 = some (.lst [V.int 0, V.int 1, V.int d, V.int 20]) := upd_same
      generalize upd H7 p8 (.lst [V.int 0, V.int 1, V.int d, V.int 20]) = H8 at s8 e8
      refine ⟨r, p8, _, rfl, same_rl hR7 s8, SqL.of e8, hne, (show 0 < 4 by decide), (show 4 < 1000 by decide), fun v H9 hv hR9 hB9 => ?_⟩
      obtain ⟨n, rfl, hn⟩ : ∃ n : Nat, v = V.int (n : Int) ∧ n ≤ 20 := by
        rcases List.mem_cons.mp hv with rfl | hv
        · exact ⟨0, rfl, by decide⟩
        · rcases List.mem_cons.mp hv with rfl | hv
          · exact ⟨1, rfl, by decide⟩
          · rcases List.mem_cons.mp hv with rfl | hv
            · exact ⟨d.toNat, by rw [Int.toNat_of_nonneg d0], by omega⟩
            · rw [List.mem_singleton.mp hv]
              exact ⟨20, rfl, by decide⟩
      exact hnx _ _ ⟨n, rfl, hR9, but_trans hB7 (but_trans (same_but r s8) hB9), hn⟩
    rintro _ H7 ⟨n, rfl, hR7, hB7, hn⟩
    have t7 := tA.trans (but_samet hR6 hB7)
    refine seq_cut (fun σ' H' => ∃ (vo : V) (xs : List Rat), σ' = [some (V.ref r), some (vt), some (vu), some (vm), some (vd), some (vw), some (vl), some (V.ref l), some (V.int (n : Int)), some (vo), none, none, none, none] ∧ Same H7 H' ∧ RwT K H' vo xs ∧ xs.length = n ∧ Ser t u xs) (fun nx hnx => ?_) ?_
    · refine ⟨vt, rfl, vu, rfl, V.int (n : Int), rfl, vt, vu, n, t, u, 6, 10, 10, 14, rfl, RT4.w.mono t7, RU4.w.mono t7, u0, RT4.c, RU4.c, ⟨by omega, by omega, by omega⟩, (by have := RT4.l; omega), (by have := RU4.l; omega), fun v xs H8 s8 hv lx S => ?_⟩
      exact hnx _ _ ⟨v, xs, rfl, s8, hv, lx, S⟩
    rintro _ H8 ⟨vo, xs, rfl, s8, hvo, lxs, S⟩
    have t8 := t7.trans (same_t s8)
    have zxs : Qs 400 xs := ser_qs (n := 20) RT4.c RU4.c u0 S (by omega) (by decide) (by decide)
    refine seq_cut (fun σ' H' => σ' = [some (V.ref r), some (vt), some (vu), some (vm), some (vd), some (vw), some (vl), some (V.ref l), some (V.int (n : Int)), some (vo), none, none, none, none] ∧ Same H8 H') (fun nx hnx => ?_) ?_
    · have nmn : NmN 62 62 6 10 10 14 n := ⟨by omega, by omega, by omega⟩
      have crs : ∀ z, ev t z * ev F' z = ev E' z * ev u z := fun z => by rw [hx, Rat.mul_comm]
      have ok1 : Okd (.list [dRw xs, dRw xs]) := (((sz_rw (zxs.mono (by decide)) (show xs.length ≤ 60 by omega)).cons ((sz_rw (zxs.mono (by decide)) (show xs.length ≤ 60 by omega)).cons SzA.nil)).lst).ok (by decide) (by decide)
      refine ⟨vd, rfl, V.int (n : Int), rfl, vd, n, E', F', t, u, 62, 62, 3, 8, 4, 6, 10, 10, 14, rfl, hd4.mono t8, Z.a, tab_mono t8 htb4, cE62, cF62, shn, l8, lE, lF, by decide, crs, u0, RT4.c, RU4.c, nmn, fun v1 x1 H9 s9 hv1 l1 _ S1 _ => ?_⟩
      have i1 : x1 = xs := S1.uniq S u0 (by omega)
      subst i1
      have t9 := t8.trans (same_t s9)
      refine ⟨V.int (n : Int), rfl, vd, rfl, V.int (n : Int), vd, rfl, vd, n, E', F', t, u, 62, 62, 3, 8, 4, 6, 10, 10, 14, rfl, hd4.mono t9, Z.a, tab_mono t9 htb4, cE62, cF62, shn, l8, lE, lF, by decide, crs, u0, RT4.c, RU4.c, nmn, fun v2 x2 H10 s10 hv2 l2 _ S2 _ => ?_⟩
      have i2 : x2 = x1 := S2.uniq S u0 (by omega)
      subst i2
      refine ⟨sz_of 2 rfl (by decide), fun p11 hp11 => ?_⟩
      have s11 := same_new (o := .lst [v1, v2]) hp11
      have e11 : upd H10 p11 (.lst [v1, v2]) p11 = some (.lst [v1, v2]) := upd_same
      generalize upd H10 p11 (.lst [v1, v2]) = H11 at s11 e11
      refine ⟨p11, _, rfl, Rp.lst (SqL.of e11) (RpA.cons (rp_rw (hv1.mono (same_t (s10.trans s11)))) (RpA.cons (rp_rw (hv2.mono (same_t s11))) RpA.nil)), ok1.1, ok1.2.1, ok1.fits, ?_⟩
      obtain ⟨sx, hsx⟩ : ∃ x, PyData.shown (.list [dRw x2, dRw x2]) = x := ⟨_, rfl⟩
      rw [hsx]
      have hvo11 := hvo.mono (same_t (s9.trans (s10.trans s11)))
      refine ⟨vo, rfl, vo, rfl, sz_of 2 rfl (by decide), fun p12 hp12 => ?_⟩
      have s12 := same_new (o := .lst [vo, vo]) hp12
      have hvo12 := hvo11.mono (same_t s12)
      refine ⟨p12, _, rfl, Rp.lst (SqL.of upd_same) (RpA.cons (rp_rw hvo12) (RpA.cons (rp_rw hvo12) RpA.nil)), ok1.1, ok1.2.1, ok1.fits, ?_⟩
      rw [hsx]
      refine ⟨rfl, _, rfl, ?_⟩
      refine ne_str_same ?_
      exact hnx _ _ ⟨rfl, s9.trans (s10.trans (s11.trans s12))⟩
    rintro _ H9 ⟨rfl, s9⟩
    have s89 := s8.trans s9
    have t9 := t7.trans (same_t s89)
    have hR9 := same_rl hR7 s89
    have hB9 := but_trans hB4 (but_trans (same_but r ssA) (but_trans hB7 (same_but r s89)))
    clear hvo
    refine seq_cut (fun σ' H' => ∃ (va vb : V) (o la : List Rat), σ' = [some (V.ref r), some (vt), some (vu), some (vm), some (vd), some (vw), some (vl), some (V.ref l), some (V.int (n : Int)), some (vo), some (va), some (vb), none, none] ∧ RlAt r H' ∧ But r H9 H' ∧ RwZ K H' va o 6 10 4 ∧ RwZ K H' vb la 10 14 4 ∧ at0 la 0 ≠ 0) (fun nx hnx => ?_) ?_
    · refine ⟨V.ref r, rfl, r, 4, rfl, hR9, by decide, fun va o H10 hR10 hB10 ha ta za la' => ?_⟩
      refine ⟨V.ref r, rfl, r, 3, rfl, hR10, by decide, fun vb la H11 hR11 hB11 hb tb' b0 cb lb => ?_⟩
      exact ⟨_, _, rfl, hnx _ _ ⟨va, vb, o, la, rfl, hR11, but_trans hB10 hB11, ⟨ha.mono (but_samet hR10 hB11), ta, cd_of_qd za, la'⟩, ⟨hb, tb', cb, lb⟩, b0⟩⟩
    rintro _ H10 ⟨va, vb, o, la, rfl, hR10, hB10, RO, RB, b0⟩
    have t10 := t9.trans (but_samet hR9 hB10)
    refine seq_cut (fun σ' H' => ∃ d : Int, σ' = [some (V.ref r), some (vt), some (vu), some (vm), some (vd), some (vw), some (vl), some (V.ref l), some (V.int (n : Int)), some (vo), some (va), some (vb), some (V.int d), none] ∧ RlAt r H' ∧ But r H10 H') (fun nx hnx => ?_) ?_
    · refine ⟨V.ref r, rfl, r, 4, rfl, hR10, by decide, by decide, fun d H11 d0 d1 hR11 hB11 => ?_⟩
      exact hnx _ _ ⟨d, rfl, hR11, hB11⟩
    rintro _ H11 ⟨d, rfl, hR11, hB11⟩
    have t1011 := but_samet hR10 hB11
    have t11 := t10.trans t1011
    have hB := but_trans hB9 (but_trans hB10 hB11)
    have RO := RO.mono t1011
    have RB := RB.mono t1011
    have RT := RT4.mono t11
    have RU := RU4.mono t11
    have RW := RW4.mono t11
    have RL := RL4.mono t11
    have hd := hd4.mono t11
    have htb := tab_mono t11 htb4
    clear RT4 RU4 RW4 RL4 hd4 htb4 t11 t1011 t10 t9 t8 t7 tA ssA s5 s6 s8 s9 hB4 hB7 hB9 hB10 hB11
    obtain ⟨c, hc⟩ : ∃ c : Rat, c = ⟨-2, 3, by decide, by decide⟩ := ⟨_, rfl⟩
    have zc : Qz 2 c := by rw [hc]; exact ⟨by decide, by decide⟩
    have c0 : c ≠ 0 := by rw [hc]; intro z; have := congrArg Rat.num z; exact absurd this (by decide)
    refine seq_cut (fun σ' H' => ∃ (va vb : V) (o' l' : List Rat), σ' = [some (V.ref r), some (vt), some (vu), some (vm), some (vd), some (vw), some (vl), some (V.ref l), some (V.int (n : Int)), some (vo), some (va), some (vb), some (V.int d), none] ∧ Same H11 H' ∧ RwZ K H' va o' 22 32 6 ∧ RwZ K H' vb l' 22 32 6 ∧ at0 l' 0 ≠ 0 ∧ ((d = 0 ∧ ∀ z, ev o' z * ev F' z = ev l' z * ev E' z) ∨ (d ≠ 0 ∧ Cd 10 14 o' ∧ o'.length ≤ 4 ∧ Cd 10 14 l' ∧ l'.length ≤ 4))) (fun nx hnx => ?_) ?_
    · refine ⟨V.int d, rfl, rfl, _, rfl, ?_⟩
      refine tif (fun hw => ?_) (fun hw => ?_)
      · have hd0 : d = 0 := by injection hw
        refine ⟨vw, rfl, 2, rfl, sz_of 2 rfl (by decide), fun p12 hp12 => ?_⟩
        have s12 := same_new (o := .tup [V.int (-2), V.int 3]) hp12
        have f12 : FrT K (upd H11 p12 (.tup [V.int (-2), V.int 3])) (.ref p12) c := by rw [hc]; exact ⟨p12, rfl, SqT.of upd_same⟩
        refine ⟨vw, .ref p12, wi, c, 31, 2, rfl, RW.w.mono (same_t s12), f12, qs_of_cd RW.c, zc, by decide, by decide, (by have := RW.l; omega), fun v1 r1 H13 s13 hv1 tr1 er1 _ lr1 => ?_⟩
        have i1 : r1 = smul c wi := ev_inj tr1 (tr_smul' c0 RW.t) fun z => by rw [er1, ev_smul]
        have s123 := s12.trans s13
        refine ⟨vl, rfl, 2, rfl, sz_of 2 rfl (by decide), fun p14 hp14 => ?_⟩
        have s14 := same_new (o := .tup [V.int (-2), V.int 3]) hp14
        have f14 : FrT K (upd H13 p14 (.tup [V.int (-2), V.int 3])) (.ref p14) c := by rw [hc]; exact ⟨p14, rfl, SqT.of upd_same⟩
        refine ⟨vl, .ref p14, lo, c, 31, 2, rfl, RL.w.mono ((same_t s123).trans (same_t s14)), f14, qs_of_cd RL.c, zc, by decide, by decide, (by have := RL.l; omega), fun v2 r2 H15 s15 hv2 tr2 er2 _ lr2 => ?_⟩
        have i2 : r2 = smul c lo := ev_inj tr2 (tr_smul' c0 RL.t) fun z => by rw [er2, ev_smul]
        refine ⟨_, _, rfl, hnx _ _ ⟨v1, v2, r1, r2, rfl, s123.trans (s14.trans s15), ⟨hv1.mono (same_t (s14.trans s15)), tr1, by rw [i1]; exact cd_smul RW.c zc, Nat.le_trans lr1 RW.l⟩, ⟨hv2, tr2, by rw [i2]; exact cd_smul RL.c zc, Nat.le_trans lr2 RL.l⟩, ?_, .inl ⟨hd0, fun z => ?_⟩⟩⟩
        · rw [i2, at0_smul]
          intro z
          rcases Rat.mul_eq_zero.mp z with z | z
          · exact c0 z
          · exact lo0 z
        · rw [er1, er2]
          have := hxw z
          grind
      · have hd0 : d ≠ 0 := fun z => hw (by rw [z])
        exact hnx _ _ ⟨va, vb, o, la, rfl, Same.refl _, ⟨RO.w, RO.t, cd_mono RO.c (by decide) (by decide), Nat.le_trans RO.l (by decide)⟩, ⟨RB.w, RB.t, cd_mono RB.c (by decide) (by decide), Nat.le_trans RB.l (by decide)⟩, b0, .inr ⟨hd0, cd_mono RO.c (by decide) (by decide), RO.l, RB.c, RB.l⟩⟩
    rintro _ H12 ⟨va, vb, o1, l1, rfl, s12, RO1, RB1, b1, hor⟩
    refine seq_cut (fun σ' H' => ∃ (va : V) (o' : List Rat), σ' = [some (V.ref r), some (vt), some (vu), some (vm), some (vd), some (vw), some (vl), some (V.ref l), some (V.int (n : Int)), some (vo), some (va), some (vb), some (V.int d), none] ∧ Same H12 H' ∧ RwZ K H' va o' 22 32 6 ∧ ∀ E2 F2 : List Rat, IsAns E2 F2 → (∀ z, ev o' z * ev F2 z = ev l1 z * ev E2 z) → Cd 1120 1120 E2 ∧ Cd 1120 1120 F2) (fun nx hnx => ?_) ?_
    · refine ⟨V.int d, rfl, rfl, _, rfl, ?_⟩
      refine tif (fun hw => ?_) (fun hw => ?_)
      · have hd1 : d = 1 := by injection hw
        rcases hor with ⟨hd0, _⟩ | ⟨_, c1, l1', c2, l2'⟩
        · omega
        refine ⟨vt, rfl, vt, t, 1, rfl, RT.w.mono (same_t s12), (by have := RT.l; omega), by decide, fun v3 H13 s13 hv3 => ?_⟩
        have key : Tr (if t = [] then [] else List.replicate 1 0 ++ t) ∧ Cd 10 14 (if t = [] then [] else List.replicate 1 0 ++ t) ∧ (if t = [] then [] else List.replicate 1 0 ++ t).length ≤ 5 := by
          by_cases ht : t = []
          · rw [if_pos ht]
            exact ⟨tr_nil, cd_nil, Nat.zero_le _⟩
          · rw [if_neg ht]
            refine ⟨fun hn => ?_, ?_, ?_⟩
            · have e9 : (List.replicate 1 (0 : Rat) ++ t).getLast hn = t.getLast ht := List.getLast_append_of_ne_nil _ ht
              rw [e9]
              exact RT.t ht
            · obtain ⟨D0, h0, h1, h2⟩ := cd_mono RT.c (c := 10) (d := 14) (by decide) (by decide)
              refine ⟨D0, h0, h1, fun x hx => ?_⟩
              rcases List.mem_append.mp hx with hx | hx
              · rw [List.eq_of_mem_replicate hx]
                exact ⟨0, by rw [Rat.zero_mul]; rfl, Nat.zero_le _⟩
              · exact h2 x hx
            · rw [List.length_append, List.length_replicate]
              have := RT.l
              omega
        generalize (if t = [] then [] else List.replicate 1 0 ++ t) = o9 at hv3 key
        exact hnx _ _ ⟨v3, o9, rfl, s13, ⟨hv3, key.1, cd_mono key.2.1 (by decide) (by decide), Nat.le_trans key.2.2 (by decide)⟩, fun E2 F2 A2 hx2 => ans_cd2 key.1 RB1.t b1 key.2.1 c2 key.2.2 l2' A2 hx2⟩
      · refine hnx _ _ ⟨va, o1, rfl, Same.refl _, RO1, fun E2 F2 A2 hx2 => ?_⟩
        rcases hor with ⟨_, hcr⟩ | ⟨_, c1, l1', c2, l2'⟩
        · obtain ⟨i1, i2⟩ := IsAns.of_cross RB1.t (ne_of_at0 b1) Z.a A2 hcr hx2
          rw [i1, i2]
          exact ⟨cd_mono cE62 (by decide) (by decide), cd_mono cF62 (by decide) (by decide)⟩
        · exact ans_cd2 RO1.t RB1.t b1 c1 c2 (by omega) l2' A2 hx2
    rintro _ H13 ⟨va, o', rfl, s13, RO', hsz⟩
    have s1213 := s12.trans s13
    have t13 := same_t s1213
    have nl1 : l1 ≠ [] := ne_of_at0 b1
    have RB' := RB1.mono (same_t s13)
    obtain ⟨C, hC⟩ : ∃ C : Prop, C = ∀ z, ev t z * ev l1 z = ev o' z * ev u z := ⟨_, rfl⟩
    refine seq_cut (fun σ' H' => ∃ dd : Bool, σ' = [some (V.ref r), some (vt), some (vu), some (vm), some (vd), some (vw), some (vl), some (V.ref l), some (V.int (n : Int)), some (vo), some (va), some (vb), some (V.int d), some (.bl dd)] ∧ Same H13 H' ∧ (dd = true ↔ C)) (fun nx hnx => ?_) ?_
    · refine ⟨vt, rfl, vb, rfl, vt, vb, t, l1, 4, 33, rfl, RT.w.mono t13, RB'.w, qt.z, qs_of_cd RB'.c, (by have := RT.l; omega), (by have := RB'.l; omega), bProd_le2 RT.l (by decide), fun v1 p1 H14 s14 hv1 tp1 ep1 _ _ => ?_⟩
      have t14 := same_t s14
      refine ⟨va, rfl, vu, rfl, va, vu, o', u, 33, 15, rfl, RO'.w.mono t14, RU.w.mono (t13.trans t14), qs_of_cd RO'.c, qs_of_cd RU.c, (by have := RO'.l; omega), (by have := RU.l; omega), bProd_le2 RO'.l (by decide), fun v2 p2 H15 s15 hv2 tp2 ep2 _ _ => ?_⟩
      refine rEqD_rw (hv1.mono (same_t s15)) hv2 ?_
      refine hnx _ _ ⟨decide (p1 = p2), rfl, s14.trans s15, ?_⟩
      rw [decide_eq_true_iff, hC]
      constructor
      · intro h z
        rw [← ep1, ← ep2, h]
      · intro h
        exact ev_inj tp1 tp2 fun z => by rw [ep1, ep2, h]
    rintro _ H14 ⟨dd, rfl, s14, hdd⟩
    have t14 := same_t s14
    refine seq_cut (fun σ' H' => ∃ (vy : V) (E2 F2 : List Rat), σ' = [some (V.ref r), some (vt), some (vu), some (vm), some (vd), some (vw), some (vl), some (vy), some (V.int (n : Int)), some (vo), some (va), some (vb), some (V.int d), some (.bl dd)] ∧ Same H14 H' ∧ AnT K H' vy E2 F2 ∧ IsAns E2 F2 ∧ (∀ z, ev o' z * ev F2 z = ev l1 z * ev E2 z) ∧ E2.length ≤ 6 ∧ F2.length ≤ 6) (fun nx hnx => ?_) ?_
    · refine ⟨va, rfl, vb, rfl, answ_call 22 32 4 12 6 33 (RO'.w.mono t14) (RB'.w.mono t14) RO'.t RB'.t b1 (tab_mono (t13.trans t14) htb) RO'.c RB'.c (by unfold ShN; decide) (by unfold MdN; decide) (by have := RO'.l; have := RB'.l; omega) RO'.l RB'.l fun vy E2 F2 H15 s15 h15 A2 hx2 l2 l2' => ?_⟩
      exact hnx _ _ ⟨vy, E2, F2, rfl, s15, h15, A2, hx2, Nat.le_trans l2 RO'.l, Nat.le_trans l2' RB'.l⟩
    rintro _ H15 ⟨vy, E2, F2, rfl, s15, hy, A2, hx2, lE2, lF2⟩
    obtain ⟨cE2, cF2⟩ := hsz E2 F2 A2 hx2
    have t15 := t13.trans (t14.trans (same_t s15))
    have hd15 := hd.mono t15
    have htb15 := tab_mono t15 htb
    have fwd : (E2 = E' ∧ F2 = F') → C := fun ⟨i1, i2⟩ => by
      rw [hC]
      rw [i1, i2] at hx2
      have := ev_cancel (x := pmul t l1) (y := pmul o' u) Z.a.tq Z.a.ne fun z => by
        rw [ev_pmul, ev_pmul]
        have h1 := hx z
        have h2 := hx2 z
        grind
      intro z
      have h3 := this z
      rwa [ev_pmul, ev_pmul] at h3
    have bwd : C → (E2 = E' ∧ F2 = F') := fun h => by
      rw [hC] at h
      refine IsAns.of_cross RB'.t nl1 Z.a A2 (fun z => ?_) hx2
      have := ev_cancel (x := pmul o' F') (y := pmul l1 E') RU.t nu (fun z => by
        rw [ev_pmul, ev_pmul]
        have h1 := hx z
        have h2 := h z
        grind) z
      rwa [ev_pmul, ev_pmul] at this
    have h16 : decide (E2 = E' ∧ F2 = F') = dd := Bool.eq_iff_iff.mpr (by rw [hdd, decide_eq_true_iff]; exact ⟨fwd, bwd⟩)
    refine seq_cut (fun σ' H' => σ' = [some (V.ref r), some (vt), some (vu), some (vm), some (vd), some (vw), some (vl), some (vy), some (V.int (n : Int)), some (vo), some (va), some (vb), some (V.int d), some (.bl dd)] ∧ Same H15 H') (fun nx hnx => ?_) ?_
    · refine ⟨vy, rfl, vd, rfl, rEqD_an hy hd15 ?_⟩
      rw [h16]
      refine ⟨V.bl dd, rfl, rfl, _, rfl, ?_⟩
      refine tifn (fun h => absurd rfl h) (fun _ => ?_)
      exact hnx _ _ ⟨rfl, Same.refl _⟩
    rintro _ H16 ⟨rfl, s16⟩
    have t16 := same_t s16
    refine ⟨V.bl dd, rfl, vy, rfl, vy, 16, E2, F2, o', l1, 1120, 1120, 4, 12, 6, 22, 32, 22, 32, rfl, hy.mono t16, A2, tab_mono t16 htb15, cE2, cF2, by unfold ShN; decide, by omega, lE2, lF2, by decide, (fun z => by rw [hx2, Rat.mul_comm]), b1, RO'.c, RB'.c, by unfold NmN; decide, fun v1 x1 H17 s17 hv1 lx1 S1 _ _ => ?_⟩
    have t17 := t16.trans (same_t s17)
    refine ⟨vd, rfl, vd, 16, E', F', t, u, 62, 62, 3, 8, 4, 6, 10, 10, 14, rfl, hd15.mono t17, Z.a, tab_mono t17 htb15, cE62, cF62, shn, l8, lE, lF, by decide, (fun z => by rw [hx, Rat.mul_comm]), u0, RT.c, RU.c, by unfold NmN; decide, fun v2 x2 H18 s18 hv2 lx2 S2 _ _ => ?_⟩
    have h18 : decide (x1 = x2) = dd := Bool.eq_iff_iff.mpr (by
      rw [hdd, decide_eq_true_iff]
      constructor
      · intro h
        rw [h] at S1
        exact fwd (Z.a.uniq A2 (S2.back S1 (by omega) (by omega)))
      · intro h
        obtain ⟨i1, i2⟩ := bwd h
        rw [i1, i2] at S1
        exact S1.uniq S2 f0 (by omega))
    refine rEqD_rw (hv1.mono (same_t s18)) hv2 ?_
    rw [h18]
    refine ⟨rfl, ?_⟩
    rw [decide_eq_true rfl]
    exact q _ (but_trans hB (same_but r (s1213.trans (s14.trans (s15.trans (s16.trans (s17.trans s18)))))))
end
end Vx
namespace Vx
open PySem PySem.Spec PyProof.Rows L2
local macro_rules | `(tactic| walk_at "cl") => `(tactic| first | assumption | exact Bz.mono (Bz.mul (by assumption) (by assumption)) (by decide) | rfl | omega | exact sz_of 0 rfl (by decide) | exact sz_of 1 rfl (by decide) | exact sz_of 2 rfl (by decide) | exact sz_of 3 rfl (by decide) | exact cmulx (by assumption) (by assumption) (by decide) | exact Bz.mono (Bz.mul (by assumption) (by assumption)) (by decide) | decide)
local macro_rules | `(tactic| walk_at "ex") => `(tactic| ((show Exists _); first | apply @Exists.intro V | apply @Exists.intro Int | apply @Exists.intro Addr | apply @Exists.intro (List V) | apply @Exists.intro Nat | apply @Exists.intro Str | apply @Exists.intro Bool | apply @Exists.intro (Option V) | apply @Exists.intro String | apply @Exists.intro Rat | apply @Exists.intro (List Rat)))
local macro_rules | `(tactic| walk_at "rd") => `(tactic| ((repeat (first | (walk_at "ex") | (apply And.intro; (focus (walk_at "cl"))))); (try dsimp only [])))
local macro_rules | `(tactic| walk_at "r0") => `(tactic| (repeat (first | (walk_at "ex") | (apply And.intro; (focus (walk_at "cl"))))))
section
variable {P : Program} {w : World} {K : PySem.W.Frag} {mg : Str → Option Value} {base : Heap}
theorem sc_one_of : FnScope ["reel", "some"] ["reel", "some"] (defScope s__law_one_of) := ⟨rfl, rfl, rfl, by decide +kernel, rfl, by decide +kernel, by decide +kernel⟩
theorem d_one_of (W : FunIn K mg "_law_one_of" s__law_one_of) (T : Bls mg) (D : Df P w K mg base "_law_pull" 1 ["reel", "many"] spPull) : Df P w K mg base "_law_one_of" 2 ["reel", "some"] (spOneOf K) := by
  obtain ⟨f, fd, F, hm⟩ := W
  refine ⟨f, fd, F.ok sc_one_of (fun vs H Q E h => ?_) (fun cdv A outer s H vs Q E hr h => ?_), hm, F.kp, F.binds fun _ _ _ _ _ _ us hl => match us, hl with | [_, _], _ => rfl⟩
  · obtain ⟨a, l, xs, rfl, _⟩ := h
    rfl
  · obtain ⟨a, l, xs, rfl, hR, hS, hne, l0, l1, q⟩ := h
    refine ⟨_, (pss_one (ps_ret (pe_ix ix_list (pv 1) (pe_d D (hr.mono (by decide)) rfl (pa_cons (pv 0) (pa_cons (pe_callB call_len_seq (by rfl) T.n_len (by decide +kernel) (pa_cons (pv 1) pa_nil)) pa_nil))) (fun _ _ => rfl)))), ?_⟩
    refine ⟨_, rfl, _, rfl, _, rfl, _, _, rfl, Or.inl hS, a, _, rfl, hR, by omega, by omega, fun d H' d0 d1 hR' hB => ?_⟩
    have hd : d.toNat < xs.length := by omega
    exact ⟨_, _, _, _, rfl, rfl, but_seq hB hne hS, at_of (j := d.toNat) (by omega) (List.getElem?_eq_getElem hd), q _ _ (List.getElem_mem hd) hR' hB⟩
end
end Vx
namespace Vx
open PySem PySem.Spec PyProof.Rows L2
local macro_rules | `(tactic| walk_at "cl") => `(tactic| first | assumption | exact Bz.mono (Bz.mul (by assumption) (by assumption)) (by decide) | rfl | omega | exact sz_of 0 rfl (by decide) | exact sz_of 1 rfl (by decide) | exact sz_of 2 rfl (by decide) | exact sz_of 3 rfl (by decide) | exact cmulx (by assumption) (by assumption) (by decide) | exact Bz.mono (Bz.mul (by assumption) (by assumption)) (by decide) | decide)
local macro_rules | `(tactic| walk_at "ex") => `(tactic| ((show Exists _); first | apply @Exists.intro V | apply @Exists.intro Int | apply @Exists.intro Addr | apply @Exists.intro (List V) | apply @Exists.intro Nat | apply @Exists.intro Str | apply @Exists.intro Bool | apply @Exists.intro (Option V) | apply @Exists.intro String | apply @Exists.intro Rat | apply @Exists.intro (List Rat)))
local macro_rules | `(tactic| walk_at "rd") => `(tactic| ((repeat (first | (walk_at "ex") | (apply And.intro; (focus (walk_at "cl"))))); (try dsimp only [])))
local macro_rules | `(tactic| walk_at "r0") => `(tactic| (repeat (first | (walk_at "ex") | (apply And.intro; (focus (walk_at "cl"))))))
theorem acc_mapF {acc : List V} {ns : List Int} {f : Int → Int} (hlen : acc.length = (ns.map V.int).length) (hel : ∀ (i : Nat) (v : V), acc[i]? = some v → ∃ c, ns[i]? = some c ∧ v = V.int (f c)) : acc = (ns.map f).map V.int := by
  refine List.ext_getElem? fun i => ?_
  rw [List.length_map] at hlen
  by_cases hi : i < acc.length
  · obtain ⟨c, hc, hv⟩ := hel i _ (List.getElem?_eq_getElem hi)
    rw [List.getElem?_eq_getElem hi, hv, List.getElem?_map, List.getElem?_map, hc]
    rfl
  · rw [List.getElem?_eq_none (by omega), List.getElem?_eq_none (by simp only [List.length_map]; omega)]
section
variable {P : Program} {w : World} {K : PySem.W.Frag} {mg : Str → Option Value} {base : Heap}
/-- inverse_in -/
def spInv (K : PySem.W.Frag) : Sp := fun vs H Q _ => ∃ (x y : V) (ps qs : List Rat) (d1 e1 d2 e2 N n l : Nat), vs = [x, y] ∧ RwT K H x ps ∧ RwT K H y qs ∧ Tr ps ∧ Tr qs ∧ Cop ps qs ∧ 2 ≤ qs.length ∧ qs.length ≤ 20 ∧ Cd d1 e1 ps ∧ Cd d2 e2 qs ∧ ps.length < 100 ∧ d1 < 8990 ∧ d2 < 8990 ∧ e1 ≤ 50000 ∧ e2 ≤ 50000 ∧ ps.length + 1 ≤ qs.length + N ∧ N * (e2 + 2) ≤ 700000 ∧ dSp d1 e2 N < 8990 ∧ eSp e1 d2 e2 N ≤ 50000 ∧ e2 ≤ eSp e1 d2 e2 N ∧
  2 * qs.length ≤ n ∧ n ≤ 2 ^ l ∧ bChain l (eSp e1 d2 e2 N + 1) n + qs.length * (bChain l (eSp e1 d2 e2 N + 1) n + 1) ≤ 700000 ∧
  ∀ v e H', Same H H' → RwT K H' v e → Tr e → e.length < qs.length → (∃ k : List Rat, ∀ z, ev e z * ev ps z + ev k z * ev qs z = 1) → Q v H'
end
end Vx
namespace Vx
open PySem PySem.Spec PyProof.Rows L2
local macro_rules | `(tactic| walk_at "cl") => `(tactic| first | assumption | exact Bz.mono (Bz.mul (by assumption) (by assumption)) (by decide) | rfl | omega | exact sz_of 0 rfl (by decide) | exact sz_of 1 rfl (by decide) | exact sz_of 2 rfl (by decide) | exact sz_of 3 rfl (by decide) | exact cmulx (by assumption) (by assumption) (by decide) | exact Bz.mono (Bz.mul (by assumption) (by assumption)) (by decide) | decide)
local macro_rules | `(tactic| walk_at "ex") => `(tactic| ((show Exists _); first | apply @Exists.intro V | apply @Exists.intro Int | apply @Exists.intro Addr | apply @Exists.intro (List V) | apply @Exists.intro Nat | apply @Exists.intro Str | apply @Exists.intro Bool | apply @Exists.intro (Option V) | apply @Exists.intro String | apply @Exists.intro Rat | apply @Exists.intro (List Rat)))
local macro_rules | `(tactic| walk_at "rd") => `(tactic| ((repeat (first | (walk_at "ex") | (apply And.intro; (focus (walk_at "cl"))))); (try dsimp only [])))
local macro_rules | `(tactic| walk_at "r0") => `(tactic| (repeat (first | (walk_at "ex") | (apply And.intro; (focus (walk_at "cl"))))))
/-- the constant UNIT -/
structure UnitC (K : PySem.W.Frag) (mg : Str → Option Value) (aU : Addr) : Prop where
  g : mg "UNIT" = some (.ref aU)
  rw : ∀ H : Hp, RwT K H (.ref aU) [1]
section
variable {P : Program} {w : World} {K : PySem.W.Frag} {mg : Str → Option Value} {base : Heap}
/-- times, of rows over one divisor each -/
def spTimesD (K : PySem.W.Frag) : Sp := fun vs H Q _ => ∃ (x y : V) (ps qs : List Rat) (d1 e1 d2 e2 : Nat), vs = [x, y] ∧ RwT K H x ps ∧ RwT K H y qs ∧ Cd d1 e1 ps ∧ Cd d2 e2 qs ∧ ps.length < 400 ∧ qs.length < 400 ∧ d1 < 8990 ∧ d2 < 8990 ∧ e1 ≤ 50000 ∧ e2 ≤ 50000 ∧
  ∀ v r H', Same H H' → RwT K H' v r → Tr r → (∀ z, ev r z = ev ps z * ev qs z) → r.length ≤ ps.length + qs.length → Q v H'
/-- parted, of rows over one divisor each -/
def spPtdD (K : PySem.W.Frag) (tb : Addr) : Sp := fun vs H Q E => ∃ (x y : V) (ps qs : List Rat), vs = [x, y] ∧ RwT K H x ps ∧ RwT K H y qs ∧ Tr ps ∧ Tr qs ∧ qs ≠ [] ∧ H tb = some (tabX tb) ∧ ∀ H', Same H H' → spSplitD K [x, y] H' Q E
/-- check_two_rows, of two that are not both () -/
def spCk2 (K : PySem.W.Frag) (tb : Addr) : Sp := fun vs H Q _ => ∃ (x y : V) (ps qs : List Rat), vs = [x, y] ∧ RwT K H x ps ∧ RwT K H y qs ∧ Tr ps ∧ Tr qs ∧ (ps ≠ [] ∨ qs ≠ []) ∧ H tb = some (tabX tb) ∧ ∀ H', Same H H' → Q .non H'
/-- common_divisor -/
def spComm (K : PySem.W.Frag) (tb : Addr) : Sp := fun vs H Q E => ∃ (x y : V) (ps qs : List Rat), vs = [x, y] ∧ RwT K H x ps ∧ RwT K H y qs ∧ Tr ps ∧ Tr qs ∧ (ps ≠ [] ∨ qs ≠ []) ∧ H tb = some (tabX tb) ∧ ∀ H', Same H H' → spShare K [x, y] H' Q E
end
end Vx
namespace Vx
open PySem PySem.Spec PyProof.Rows L2
local macro_rules | `(tactic| walk_at "cl") => `(tactic| first | assumption | exact Bz.mono (Bz.mul (by assumption) (by assumption)) (by decide) | rfl | omega | exact sz_of 0 rfl (by decide) | exact sz_of 1 rfl (by decide) | exact sz_of 2 rfl (by decide) | exact sz_of 3 rfl (by decide) | exact cmulx (by assumption) (by assumption) (by decide) | exact Bz.mono (Bz.mul (by assumption) (by assumption)) (by decide) | decide)
local macro_rules | `(tactic| walk_at "ex") => `(tactic| ((show Exists _); first | apply @Exists.intro V | apply @Exists.intro Int | apply @Exists.intro Addr | apply @Exists.intro (List V) | apply @Exists.intro Nat | apply @Exists.intro Str | apply @Exists.intro Bool | apply @Exists.intro (Option V) | apply @Exists.intro String | apply @Exists.intro Rat | apply @Exists.intro (List Rat)))
local macro_rules | `(tactic| walk_at "rd") => `(tactic| ((repeat (first | (walk_at "ex") | (apply And.intro; (focus (walk_at "cl"))))); (try dsimp only [])))
local macro_rules | `(tactic| walk_at "r0") => `(tactic| (repeat (first | (walk_at "ex") | (apply And.intro; (focus (walk_at "cl"))))))
section
variable {K : PySem.W.Frag} {h : Heap} {mg : Str → Option Value} {R : Prop}
theorem st_def {x : Str} {st : Stmt} {f : Addr} {oc kV dc pm cd ct : Value} {od an : Option Addr} {sl : Array (Option Value)} (X : K.In h) (G : h.Ns mainGlobals mg)
    (a : PySem.W.nsIn K mainGlobals x = some (some (.ref f)))
    (l : K.lookup f = some ⟨oc, od, .func (PySem.W.fnOf x x (defArgs st) (defBody st) (defScope st) .none kV dc pm an cd ct), sl⟩)
    (c : PySem.W.codeIn K cd x = true) (kk : PySem.W.keepIn K (.ref f) = true) (k : FunIn K mg x st → R) : R := k (funIn X G a l c kk)
theorem tabIn_of {x : Str} {f c P : Addr} {oc oc2 : Value} {od od2 : Option Addr} {sl sl2 : Array (Option Value)} {fd : FuncData} {vs : Array Value}
    (a : PySem.W.nsIn K mainGlobals x = some (some (.ref f))) (l : K.lookup f = some ⟨oc, od, .func fd, sl⟩) (hc : fd.code = .ref c)
    (lc : K.lookup c = some ⟨oc2, od2, .fields vs, sl2⟩) (hv : (vs[11]? : Option Value) = some (.ref P)) : PySem.W.tabIn K x = some (c, P) := by
  unfold PySem.W.tabIn
  rw [a]
  dsimp only []
  rw [l]
  dsimp only []
  rw [hc]
  dsimp only []
  rw [lc]
  dsimp only []
  rw [hv]
theorem st_defC {x : Str} {st : Stmt} {f c P : Addr} {oc kV dc pm ct oc2 : Value} {od od2 an : Option Addr} {sl sl2 : Array (Option Value)} {vs : Array Value} (X : K.In h) (G : h.Ns mainGlobals mg)
    (a : PySem.W.nsIn K mainGlobals x = some (some (.ref f)))
    (l : K.lookup f = some ⟨oc, od, .func (PySem.W.fnOf x x (defArgs st) (defBody st) (defScope st) .none kV dc pm an (.ref c) ct), sl⟩)
    (cc : PySem.W.codeIn K (.ref c) x = true) (kk : PySem.W.keepIn K (.ref f) = true) (lc : K.lookup c = some ⟨oc2, od2, .fields vs, sl2⟩) (hv : (vs[11]? : Option Value) = some (.ref P)) (n : K.lookup P = none)
    (k : FunC K mg x st c P → PySem.W.tabIn K x = some (c, P) → K.lookup P = none → R) : R :=
  k ⟨f, oc, od, kV, dc, pm, an, ct, sl, l, cc, kk, PySem.W.mg_of X G a⟩ (tabIn_of a l rfl lc hv) n
theorem st_non {x : Str} (X : K.In h) (G : h.Ns mainGlobals mg) (a : PySem.W.nsIn K mainGlobals x = some none) (k : mg x = none → R) : R := k (PySem.W.mg_none_of X G a)
theorem st_val {x : Str} {v : Value} (X : K.In h) (G : h.Ns mainGlobals mg) (a : PySem.W.nsIn K mainGlobals x = some (some v)) (k : mg x = some v → R) : R := k (PySem.W.mg_of X G a)
theorem st_fr {x : Str} {aN : Addr} {i j : Int} {t u : Tok} {n : Nat} {dd : Option Addr} {sl : Array (Option Value)} (X : K.In h) (G : h.Ns mainGlobals mg) (a : PySem.W.nsIn K mainGlobals x = some (some (.ref aN)))
    (l : K.lookup aN = some ⟨.type "tuple", dd, .seq #[.int i t, .int j u] n, sl⟩) (k : mg x = some (.ref aN) → (∀ H : Hp, SqT K H aN [.int i, .int j]) → R) : R :=
  k (PySem.W.mg_of X G a) fun H => Or.inr ⟨_, _, n, l, rfl, rfl, by show 2 ≤ sizeLine; decide, .cons ⟨_, rfl⟩ (.cons ⟨_, rfl⟩ .nil)⟩
theorem FnG.imp {P : Program} {w : World} {base : Heap} {k : Nat} {f : Addr} {fd : FuncData} {ps : List Str} {sp sp' : Sp} (F : FnG P w K mg base CX0 k f fd ps sp) (i : ∀ vs H Q E, sp' vs H Q E → sp vs H Q E) : FnG P w K mg base CX0 k f fd ps sp' :=
  ⟨fun vs H Q E h => F.len vs H Q E (i vs H Q E h), fun A o s H ar us vs Q E r g e b v h => F.go A o s H ar us vs Q E r g e b v (i vs H Q E h)⟩
end
section
variable {P : Program} {w : World} {K : PySem.W.Frag} {mg : Str → Option Value} {base : Heap}
/-- law tells True of every script -/
def spLaw (K : PySem.W.Frag) (tb : Addr) : Sp := fun vs H Q _ => ∃ (a : Addr) (ns : List Int), vs = [.ref a] ∧ SqL K H a (ns.map V.int) ∧ ns.length ≤ 63 ∧ H tb = some (tabX tb) ∧ ∀ H', Same H H' → Q (.bl true) H'
theorem sc_law : FnScope ["script", "turn"] ["script"] (defScope s_law) := ⟨rfl, rfl, rfl, by decide +kernel, rfl, by decide +kernel, by decide +kernel⟩
theorem fn_law {tb f : Addr} {fd : FuncData} (F : Fun K "law" "law" s_law f fd) (B : Bls mg) (D_law_reel : Df P w K mg base "_law_reel" 1 ["script", "turn"] (spReel K)) (D_law_right : Dg P w K mg base "_law_right" 43 ["reel"] (spRight tb)) :
    FnG P w K mg base CX0 44 f fd ["script"] (spLaw K tb) := by
  refine gok F sc_law (fun vs H Q E h => ?_) (fun cdv A outer s H vs Q E ng hr h => ?_)
  · obtain ⟨a, ns, rfl, _⟩ := h
    rfl
  · obtain ⟨a, ns, rfl, hS, hl, htb, q⟩ := h
    have nd := sc_law.nd
    refine ⟨_, (pss_one (ps_ret (pe_callB (cr_all rfl) (by rfl) B.n_all (by decide +kernel) (pa_cons (pe_lc (own := [("turn", 1)]) rfl nd (pi_range1 rfl B.n_range (pa_cons (pe_callB (call_max2 rfl) (by rfl) B.n_max (by decide +kernel) (pa_cons pe_int (pa_cons (pe_callB (call_min2 rfl) (by rfl) B.n_min (by decide +kernel) (pa_cons (pe_callB call_len_seq (by rfl) B.n_len (by decide +kernel) (pa_cons (pv 0) pa_nil)) (pa_cons pe_int pa_nil))) pa_nil))) pa_nil)) (blkOk_by (own := [("turn", 1)]) (N := ["script", "turn"]) (sc := defScope s_law) (by decide +kernel)) (fun _ _ _ _ _ => (pg_name (i := 1) nd rfl (Or.inl rfl) (Or.inr rfl))) (fun _ _ _ _ _ => pts_nil) (fun _ _ _ _ _ => (pe_dg D_law_right (hr.mono (by decide)) ng rfl (pa_cons (pe_d D_law_reel (hr.mono (by decide)) rfl (pa_cons (pv 0) (pa_cons (pv 1) pa_nil))) pa_nil)))) pa_nil)))), ?_⟩
    refine ⟨_, rfl, _, _, rfl, Or.inl hS, _, _, rfl, _, _, rfl, ?_⟩
    rw [List.length_map]
    obtain ⟨n, hn, n3⟩ : ∃ n : Nat, (if (if (2 : Int) < (ns.length : Int) then (2 : Int) else (ns.length : Int)) > 1 then (if (2 : Int) < (ns.length : Int) then (2 : Int) else (ns.length : Int)) else 1) = (n : Int) ∧ n ≤ 2 := by
      refine ⟨(if (if (2 : Int) < (ns.length : Int) then (2 : Int) else (ns.length : Int)) > 1 then (if (2 : Int) < (ns.length : Int) then (2 : Int) else (ns.length : Int)) else 1).toNat, ?_, ?_⟩ <;> (split <;> split <;> omega)
    refine ⟨(n : Int), congrArg (fun z => [V.int z]) hn, by omega, by omega, fun D hD => lc_range (n := n) (fun i Hx => Same H Hx ∧ Hx D = some (.lst (List.replicate i (V.bl true)))) ⟨same_new hD, upd_same⟩ ?_ ?_⟩
    · rintro i Hx hi ⟨sx, ex⟩
      refine ⟨rfl, ?_⟩
      unfold tYes
      dsimp only []
      rw [if_pos rfl]
      refine ⟨_, rfl, _, rfl, a, ns, 0 + (i : Int), rfl, sx.seq hS, hl, by omega, by omega, fun p H1 hp hR s1 => ?_⟩
      have hne : D ≠ p := ne_of_none ex hp
      refine ⟨p, rfl, hR, s1 _ _ (sx _ _ htb), fun H2 b2 => ?_⟩
      have e2 : H2 D = some (.lst (List.replicate i (V.bl true))) := b2 _ _ (s1 _ _ ex) hne
      refine ⟨_, e2, ?_, fun b o e => ?_, ?_⟩
      · rw [List.length_replicate, sizeLine_eq]
        omega
      · rw [upd_ne (ne_of_none e hD)]
        exact b2 _ _ (s1 _ _ (sx _ _ e)) (ne_of_none (sx _ _ e) hp)
      · rw [upd_same, List.replicate_succ']
    · rintro Hx ⟨sx, ex⟩
      refine ⟨D, List.replicate n true, rfl, SqL.of (by rw [List.map_replicate]; exact ex), ?_⟩
      rw [show (List.replicate n true).all id = true from by simp]
      exact q Hx sx
def spLawA (K : PySem.W.Frag) : Sp := fun vs H Q E => ∀ c P : Addr, PySem.W.tabIn K "is_row" = some (c, P) → spLaw K P vs H Q E
theorem Dg.up {j k : Nat} {x : Str} {ps : List Str} {sp : Sp} (D : Dg P w K mg base x j ps sp) (h : j ≤ k) : Dg P w K mg base x k ps sp := by
  obtain ⟨f, fd, F, a⟩ := D.ex
  exact ⟨f, fd, ⟨F.len, fun A o s H ar us vs Q E r g e b v hh => F.go A o s H ar us vs Q E (r.mono h) g e b v hh⟩, a⟩
end
theorem walkT {l : PySem.W.OpenLaw} {q : Program} {loose : List Str} {XP : (Str → Option Value) → Heap → Prop} {YP : World → Heap → Prop} {d : DefRec} {K : Params → PySem.W.Frag} (hn : l.most = some 63)
    (hdf : d.params.defaults = []) (him : importsNone q = true) (hrec : ((recsOf q).any fun e => e.name == ("is_row" : Str)) = true) (hY : ∀ (w : World) (h : Heap), YP w h → (K w.params).In h)
    (F : ∀ (w : World) (mg : Str → Option Value) (fa : Addr) (h : Heap), (K w.params).In h → h.Ns mainGlobals mg → mg d.name = some (.ref fa) →
      ∃ (fd : FuncData) (c P : Addr), PySem.W.tabIn (K w.params) "is_row" = some (c, P) ∧ (K w.params).lookup P = none ∧ (∀ (s : Shared) (u : Value), BindsTo s fd ⟨[u], []⟩ [("script", u)]) ∧
        ∀ base : Heap, (K w.params).In base → base.Ns mainGlobals mg → Sys base → GxR.TabB base mg c P → FnG l.prog w (K w.params) mg base CX0 44 fa fd ["script"] (spLaw (K w.params) P)) :
    PySem.W.WalkO q loose XP YP l.row.toRowW d [] (fun f vs => PySem.call f vs) := by
  refine walk_gt (n := 63) (k := 44) (x := "script") (y := "is_row") (sp := fun w => spLawA (K w.params)) (st := .Pass ⟨0, 0, 0, 0⟩) hn (by decide) hdf ⟨rfl, by decide, by decide⟩ him hrec hY fun w mg fa h KX G hm _ => ?_
  obtain ⟨fd, c, P, h1, h2, h3, h4⟩ := F w mg fa h KX G hm
  refine ⟨fd, c, P, h1, h2, h3, fun base a b e t => (h4 base a b e t).imp fun vs H Q E z => z c P h1, fun H a ns hl hP hS c' P' e => ?_⟩
  rw [h1] at e
  cases e
  exact ⟨a, ns, rfl, hS, hl, hP, fun H' s => ⟨rfl, s⟩⟩
section
variable {K : PySem.W.Frag} {h : Heap} {mg : Str → Option Value} {R : Prop}
theorem st_int {x : Str} {i : Int} {t : Tok} (X : K.In h) (G : h.Ns mainGlobals mg) (a : PySem.W.nsIn K mainGlobals x = some (some (.int i t))) (k : mg x = some (.int i t) → R) : R := k (PySem.W.mg_of X G a)
end
section
variable {P : Program} {w : World} {K : PySem.W.Frag} {mg : Str → Option Value}
theorem law_all {fa c tb aNIL aONE : Addr} {tM : Tok} (hfa : mg "law" = some (.ref fa)) (T : Blt mg) (hNIL : NilC K mg aNIL) (gl : mg "lcm" = some (.builtin "math.lcm")) (nb : mg "bool" = none) (hONE : OneC K mg aONE) (hP : P.given.tree = none) (hMost : mg "MOST_NUMBERS" = some (.int 60 tM))
    (WR : FunC K mg "is_row" s_is_row c tb) (htab : PySem.W.tabIn K "is_row" = some (c, tb)) (hPn : K.lookup tb = none)
    (W_is_whole : FunIn K mg "is_whole" s_is_whole) (W_is_fraction : FunIn K mg "is_fraction" s_is_fraction) (W_check_number : FunIn K mg "check_number" s_check_number) (W_ratio : FunIn K mg "ratio" s_ratio) (W_ratio_less : FunIn K mg "ratio_less" s_ratio_less) (W_ratio_product : FunIn K mg "ratio_product" s_ratio_product) (W_ratio_over : FunIn K mg "ratio_over" s_ratio_over) (W_without_end : FunIn K mg "without_end" s_without_end) (W_trimmed : FunIn K mg "trimmed" s_trimmed) (W_cleared : FunIn K mg "cleared" s_cleared) (W_row_over : FunIn K mg "row_over" s_row_over) (W_scaled : FunIn K mg "scaled" s_scaled) (W_whole_split : FunIn K mg "whole_split" s_whole_split) (W_split_row : FunIn K mg "split_row" s_split_row) (W_quotient_of : FunIn K mg "quotient_of" s_quotient_of) (W_common_factor : FunIn K mg "common_factor" s_common_factor) (W_divided : FunIn K mg "divided" s_divided) (W_primitive : FunIn K mg "primitive" s_primitive) (W_first_fraction : FunIn K mg "first_fraction" s_first_fraction) (W_whole_worth : FunIn K mg "whole_worth" s_whole_worth) (W_whole_digits : FunIn K mg "whole_digits" s_whole_digits) (W_goes_into : FunIn K mg "goes_into" s_goes_into) (W_whole_shared : FunIn K mg "whole_shared" s_whole_shared) (W_shared_part : FunIn K mg "shared_part" s_shared_part) (W_is_led : FunIn K mg "is_led" s_is_led) (W_is_filled_row : FunIn K mg "is_filled_row" s_is_filled_row) (W_is_led_row : FunIn K mg "is_led_row" s_is_led_row) (W_check_row : FunIn K mg "check_row" s_check_row) (W_check_filled_row : FunIn K mg "check_filled_row" s_check_filled_row) (W_is_answer : FunIn K mg "is_answer" s_is_answer) (W_check_answer : FunIn K mg "check_answer" s_check_answer) (W_made_answer : FunIn K mg "made_answer" s_made_answer) (W_answer_of : FunIn K mg "answer_of" s_answer_of) (W_next_number : FunIn K mg "next_number" s_next_number) (W_first_numbers : FunIn K mg "first_numbers" s_first_numbers) (W__law_reel : FunIn K mg "_law_reel" s__law_reel) (W__law_pull : FunIn K mg "_law_pull" s__law_pull) (W__law_one_of : FunIn K mg "_law_one_of" s__law_one_of) (W__law_lowest : FunIn K mg "_law_lowest" s__law_lowest) (W__law_plus : FunIn K mg "_law_plus" s__law_plus) (W__law_minus : FunIn K mg "_law_minus" s__law_minus) (W__law_times : FunIn K mg "_law_times" s__law_times) (W__law_over : FunIn K mg "_law_over" s__law_over) (W__law_part : FunIn K mg "_law_part" s__law_part) (W__law_some : FunIn K mg "_law_some" s__law_some) (W__law_trim : FunIn K mg "_law_trim" s__law_trim) (W__law_at : FunIn K mg "_law_at" s__law_at) (W__law_scaled : FunIn K mg "_law_scaled" s__law_scaled) (W__law_product : FunIn K mg "_law_product" s__law_product) (W__law_parted : FunIn K mg "_law_parted" s__law_parted) (W__law_low : FunIn K mg "_law_low" s__law_low) (W__law_divisor : FunIn K mg "_law_divisor" s__law_divisor) (W__law_drawn : FunIn K mg "_law_drawn" s__law_drawn) (W__law_led : FunIn K mg "_law_led" s__law_led) (W__law_later : FunIn K mg "_law_later" s__law_later) (W__law_answer : FunIn K mg "_law_answer" s__law_answer) (W__law_numbers : FunIn K mg "_law_numbers" s__law_numbers) (W__law_is_whole : FunIn K mg "_law_is_whole" s__law_is_whole) (W__law_is_fraction : FunIn K mg "_law_is_fraction" s__law_is_fraction) (W__law_is_row : FunIn K mg "_law_is_row" s__law_is_row) (W__law_is_led : FunIn K mg "_law_is_led" s__law_is_led) (W__law_is_answer : FunIn K mg "_law_is_answer" s__law_is_answer) (W__law_under : FunIn K mg "_law_under" s__law_under) (W__law_right : FunIn K mg "_law_right" s__law_right) (W_law : FunIn K mg "law" s_law) :
    ∃ (fd : FuncData) (c P' : Addr), PySem.W.tabIn K "is_row" = some (c, P') ∧ K.lookup P' = none ∧ (∀ (s : Shared) (u : Value), BindsTo s fd ⟨[u], []⟩ [("script", u)]) ∧
      ∀ base : Heap, K.In base → base.Ns mainGlobals mg → Sys base → GxR.TabB base mg c P' → FnG P w K mg base CX0 44 fa fd ["script"] (spLaw K P') := by
  obtain ⟨f, fd, F, hm⟩ := W_law
  have e : fa = f := Value.ref.inj (Option.some.inj (hfa.symm.trans hm))
  subst e
  refine ⟨fd, c, tb, htab, hPn, ?_, fun base _ _ sy TB => ?_⟩
  · obtain ⟨oc, od, kV, doc, pm, an, cdv, ct, osl, rfl, _, _⟩ := F.ex
    exact fun s u => .of_eq rfl
  · have Dratio := d_ratio (P := P) (w := w) (base := base) W_ratio T sy hP 
    have Dratio_over := d_ratio_over (P := P) (w := w) (base := base) W_ratio_over Dratio 
    have Dratio_less := d_ratio_less (P := P) (w := w) (base := base) W_ratio_less Dratio 
    have Dratio_product := d_ratio_product (P := P) (w := w) (base := base) W_ratio_product Dratio 
    have Dwithout_end := d_without_end (P := P) (w := w) (base := base) W_without_end T 
    have Dtrimmed := d_trimmed (P := P) (w := w) (base := base) W_trimmed T hNIL Dwithout_end 
    have Dcleared := d_cleared (P := P) (w := w) (base := base) W_cleared T gl 
    have Drow_over := d_row_over (P := P) (w := w) (base := base) W_row_over Dratio Dtrimmed 
    have Dwhole_split := d_whole_split (P := P) (w := w) (base := base) W_whole_split T sy hP 
    have DclearedD := d_clearedD (P := P) (w := w) (base := base) W_cleared T gl 
    have DwithoutI := d_without_endI (P := P) (w := w) (base := base) W_without_end T 
    have Dsplit_rowD := d_split_rowD (P := P) (w := w) (base := base) W_split_row DclearedD Dwhole_split Drow_over 
    have Dquotient_ofD := d_quotient_ofD (P := P) (w := w) (base := base) W_quotient_of Dsplit_rowD 
    have Dcommon_factor := d_common_factorG (P := P) (w := w) (base := base) W_common_factor T 
    have Ddivided := d_dividedG (P := P) (w := w) (base := base) W_divided sy hP Dcommon_factor 
    have Dprimitive := d_primitive (P := P) (w := w) (base := base) W_primitive DwithoutI Ddivided 
    have Dfirst_fraction := d_first_fraction (P := P) (w := w) (base := base) W_first_fraction hNIL 
    have Dscaled := d_scaled (P := P) (w := w) (base := base) W_scaled T Dratio_product 
    have Dwhole_worth := d_whole_worth (P := P) (w := w) (base := base) W_whole_worth T 
    have Dwhole_digits := d_whole_digits (P := P) (w := w) (base := base) W_whole_digits T sy hP 
    have Dgoes_into := d_goes_into (P := P) (w := w) (base := base) W_goes_into DwithoutI Dwhole_split 
    have Dwhole_shared := d_whole_shared (P := P) (w := w) (base := base) W_whole_shared T Dprimitive Dwhole_worth Dwhole_digits Dgoes_into 
    have Dshared_part := d_shared_part (P := P) (w := w) (base := base) W_shared_part T hONE DclearedD Dprimitive Dwhole_shared Drow_over Dscaled Dratio_over Dfirst_fraction 
    have Dsplit_row := d_split_row (P := P) (w := w) (base := base) W_split_row Dcleared Dwhole_split Drow_over 
    have Dis_fraction := d_is_fraction (P := P) (w := w) (base := base) W_is_fraction W_is_whole T 
    have Dis_row := d_is_row (P := P) (w := w) (base := base) WR W_is_fraction W_is_whole T hNIL TB hPn 
    have Dcheck_row := d_check_row (P := P) (w := w) (base := base) W_check_row Dis_row 
    have Dis_filled_row := d_is_filled_row (P := P) (w := w) (base := base) W_is_filled_row Dis_row 
    have Dcheck_filled_row := d_check_filled_row (P := P) (w := w) (base := base) W_check_filled_row Dis_filled_row 
    have D_law_pull := d_pull (P := P) (w := w) (base := base) W__law_pull T.toBls 
    have D_law_reel := d_reel (P := P) (w := w) (base := base) W__law_reel T.toBls 
    have D_law_one_of := d_one_of (P := P) (w := w) (base := base) W__law_one_of T.toBls D_law_pull 
    have D_law_lowest := d__law_lowest (P := P) (w := w) (base := base) W__law_lowest T 
    have D_law_plus := d__law_plus (P := P) (w := w) (base := base) W__law_plus D_law_lowest 
    have D_law_minus := d__law_minus (P := P) (w := w) (base := base) W__law_minus D_law_lowest 
    have D_law_times := d__law_times (P := P) (w := w) (base := base) W__law_times D_law_lowest 
    have D_law_part := d__law_part (P := P) (w := w) (base := base) W__law_part D_law_pull D_law_lowest 
    have D_law_some := d__law_some (P := P) (w := w) (base := base) W__law_some D_law_part 
    have D_trimL := d__law_trimL (P := P) (w := w) (base := base) W__law_trim T 
    have D_trimT := d__law_trimT (P := P) (w := w) (base := base) W__law_trim T 
    have D_law_at := d__law_at (P := P) (w := w) (base := base) W__law_at T 
    have D_law_scaled := d__law_scaled (P := P) (w := w) (base := base) W__law_scaled D_trimL D_law_times 
    have D_law_product := d__law_product (P := P) (w := w) (base := base) W__law_product T D_trimL D_law_plus D_law_times 
    have D_law_drawn := d__law_drawn (P := P) (w := w) (base := base) W__law_drawn T D_law_pull D_law_part D_law_some 
    have D_law_is_whole := d__law_is_whole (P := P) (w := w) (base := base) W__law_is_whole T nb 
    have D_law_is_fraction := d__law_is_fraction (P := P) (w := w) (base := base) W__law_is_fraction T D_law_is_whole D_law_lowest 
    have D_law_is_row := d__law_is_row (P := P) (w := w) (base := base) W__law_is_row T D_law_is_fraction 
    have D_law_lowestN := d__law_lowestN (P := P) (w := w) (base := base) W__law_lowest T 
    have D_law_over := d__law_over (P := P) (w := w) (base := base) W__law_over D_law_lowestN 
    have D_law_parted := d__law_parted (P := P) (w := w) (base := base) W__law_parted T D_trimL D_law_minus D_law_times D_law_over 
    have D_law_low := d__law_lowF (P := P) (w := w) (base := base) W__law_low D_law_scaled D_law_over 
    have D_law_divisor := d__law_divisor (P := P) (w := w) (base := base) W__law_divisor T D_law_parted D_law_low 
    have D_law_led := d__law_led (P := P) (w := w) (base := base) W__law_led D_law_drawn D_trimT 
    have Dis_whole := d_is_whole (P := P) (w := w) (base := base) W_is_whole T 
    have Dcheck_number := d_check_number (P := P) (w := w) (base := base) W_check_number Dis_whole 
    have Dis_led := d_is_led (P := P) (w := w) (base := base) W_is_led hONE 
    have Dis_led_row := d_is_led_row (P := P) (w := w) (base := base) W_is_led_row Dis_row Dis_led 
    have Kis_answer := d_is_answer (P := P) (w := w) (base := base) W_is_answer T Dis_row Dis_led_row Dshared_part 
    have Dcheck_answer := d_check_answer (P := P) (w := w) (base := base) W_check_answer Kis_answer.df 
    have Dmade_answer := d_made_answer (P := P) (w := w) (base := base) W_made_answer hONE Dshared_part Dratio_over Dscaled Dquotient_ofD 
    have Kanswer_of := d_answer_of (P := P) (w := w) (base := base) W_answer_of hNIL Dcheck_row Dcheck_filled_row Dmade_answer 
    have Dnext_number := d_next_number (P := P) (w := w) (base := base) W_next_number T hNIL Dratio_less Dratio_product 
    have Kfirst_numbers := d_first_numbers (P := P) (w := w) (base := base) W_first_numbers T hMost Dcheck_answer Dcheck_number Dnext_number 
    have D_law_later := d__law_laterE (P := P) (w := w) (base := base) W__law_later 
    have D_law_under := d__law_under (P := P) (w := w) (base := base) W__law_under D_law_led D_law_some D_law_scaled 
    have D_law_is_led := d__law_is_led (P := P) (w := w) (base := base) W__law_is_led D_law_is_row 
    have D_law_numbers := d__law_numbers (P := P) (w := w) (base := base) W__law_numbers T D_law_at D_law_minus D_law_times D_law_over 
    have D_law_answer := d__law_answer (P := P) (w := w) (base := base) W__law_answer D_law_divisor D_law_parted D_law_over D_law_scaled 
    have D_law_is_answer := d__law_is_answer (P := P) (w := w) (base := base) W__law_is_answer T D_law_is_row D_law_is_led D_law_divisor 
    have D_law_right := (d__law_right (P := P) (w := w) (base := base) W__law_right T sy D_law_pull D_law_one_of D_law_drawn D_law_under D_law_answer D_law_product D_law_is_answer D_law_numbers D_law_scaled D_law_later Kanswer_of Kis_answer Kfirst_numbers).up (k := 43) (by decide)
    exact fn_law F T.toBls D_law_reel D_law_right
end
end Vx
open PySem PySem.W PyProof.Rows
set_option Elab.async false
set_option maxRecDepth 100000 in
set_option maxHeartbeats 0 in
theorem PySem.Challenge.cw_allhelms_k10_whole_one_answer_for_each_q_holds : PySem.Challenge.rw_allhelms_k10_whole_one_answer_for_each_q.Holds := by
  w_on; o_law; k_head; (case hw => w_witness2)
  k_fill
  refine Vx.walkT (l := PySem.Challenge.rw_allhelms_k10_whole_one_answer_for_each_q) rfl rfl rfl rfl (fun w h Y => PySem.W.kIn_of Y) ?F
  case F =>
    intro w mg fa h KX G hmg
    refine' Vx.st_def (x := "is_whole") (st := Vx.s_is_whole) KX G ?a_1 ?l_1 ?c_1 ?kk_1 ?k_1
    (case a_1 => k_is); (case l_1 => k_is); (case c_1 => k_is); (case kk_1 => k_is)
    intro W_is_whole
    refine' Vx.st_def (x := "is_fraction") (st := Vx.s_is_fraction) KX G ?a_2 ?l_2 ?c_2 ?kk_2 ?k_2
    (case a_2 => k_is); (case l_2 => k_is); (case c_2 => k_is); (case kk_2 => k_is)
    intro W_is_fraction
    refine' Vx.st_def (x := "check_number") (st := Vx.s_check_number) KX G ?a_3 ?l_3 ?c_3 ?kk_3 ?k_3
    (case a_3 => k_is); (case l_3 => k_is); (case c_3 => k_is); (case kk_3 => k_is)
    intro W_check_number
    refine' Vx.st_def (x := "ratio") (st := Vx.s_ratio) KX G ?a_4 ?l_4 ?c_4 ?kk_4 ?k_4
    (case a_4 => k_is); (case l_4 => k_is); (case c_4 => k_is); (case kk_4 => k_is)
    intro W_ratio
    refine' Vx.st_def (x := "ratio_less") (st := Vx.s_ratio_less) KX G ?a_5 ?l_5 ?c_5 ?kk_5 ?k_5
    (case a_5 => k_is); (case l_5 => k_is); (case c_5 => k_is); (case kk_5 => k_is)
    intro W_ratio_less
    refine' Vx.st_def (x := "ratio_product") (st := Vx.s_ratio_product) KX G ?a_6 ?l_6 ?c_6 ?kk_6 ?k_6
    (case a_6 => k_is); (case l_6 => k_is); (case c_6 => k_is); (case kk_6 => k_is)
    intro W_ratio_product
    refine' Vx.st_def (x := "ratio_over") (st := Vx.s_ratio_over) KX G ?a_7 ?l_7 ?c_7 ?kk_7 ?k_7
    (case a_7 => k_is); (case l_7 => k_is); (case c_7 => k_is); (case kk_7 => k_is)
    intro W_ratio_over
    refine' Vx.st_def (x := "without_end") (st := Vx.s_without_end) KX G ?a_8 ?l_8 ?c_8 ?kk_8 ?k_8
    (case a_8 => k_is); (case l_8 => k_is); (case c_8 => k_is); (case kk_8 => k_is)
    intro W_without_end
    refine' Vx.st_def (x := "trimmed") (st := Vx.s_trimmed) KX G ?a_9 ?l_9 ?c_9 ?kk_9 ?k_9
    (case a_9 => k_is); (case l_9 => k_is); (case c_9 => k_is); (case kk_9 => k_is)
    intro W_trimmed
    refine' Vx.st_def (x := "cleared") (st := Vx.s_cleared) KX G ?a_10 ?l_10 ?c_10 ?kk_10 ?k_10
    (case a_10 => k_is); (case l_10 => k_is); (case c_10 => k_is); (case kk_10 => k_is)
    intro W_cleared
    refine' Vx.st_def (x := "row_over") (st := Vx.s_row_over) KX G ?a_11 ?l_11 ?c_11 ?kk_11 ?k_11
    (case a_11 => k_is); (case l_11 => k_is); (case c_11 => k_is); (case kk_11 => k_is)
    intro W_row_over
    refine' Vx.st_def (x := "scaled") (st := Vx.s_scaled) KX G ?a_12 ?l_12 ?c_12 ?kk_12 ?k_12
    (case a_12 => k_is); (case l_12 => k_is); (case c_12 => k_is); (case kk_12 => k_is)
    intro W_scaled
    refine' Vx.st_def (x := "whole_split") (st := Vx.s_whole_split) KX G ?a_13 ?l_13 ?c_13 ?kk_13 ?k_13
    (case a_13 => k_is); (case l_13 => k_is); (case c_13 => k_is); (case kk_13 => k_is)
    intro W_whole_split
    refine' Vx.st_def (x := "split_row") (st := Vx.s_split_row) KX G ?a_14 ?l_14 ?c_14 ?kk_14 ?k_14
    (case a_14 => k_is); (case l_14 => k_is); (case c_14 => k_is); (case kk_14 => k_is)
    intro W_split_row
    refine' Vx.st_def (x := "quotient_of") (st := Vx.s_quotient_of) KX G ?a_15 ?l_15 ?c_15 ?kk_15 ?k_15
    (case a_15 => k_is); (case l_15 => k_is); (case c_15 => k_is); (case kk_15 => k_is)
    intro W_quotient_of
    refine' Vx.st_def (x := "common_factor") (st := Vx.s_common_factor) KX G ?a_16 ?l_16 ?c_16 ?kk_16 ?k_16
    (case a_16 => k_is); (case l_16 => k_is); (case c_16 => k_is); (case kk_16 => k_is)
    intro W_common_factor
    refine' Vx.st_def (x := "divided") (st := Vx.s_divided) KX G ?a_17 ?l_17 ?c_17 ?kk_17 ?k_17
    (case a_17 => k_is); (case l_17 => k_is); (case c_17 => k_is); (case kk_17 => k_is)
    intro W_divided
    refine' Vx.st_def (x := "primitive") (st := Vx.s_primitive) KX G ?a_18 ?l_18 ?c_18 ?kk_18 ?k_18
    (case a_18 => k_is); (case l_18 => k_is); (case c_18 => k_is); (case kk_18 => k_is)
    intro W_primitive
    refine' Vx.st_def (x := "first_fraction") (st := Vx.s_first_fraction) KX G ?a_19 ?l_19 ?c_19 ?kk_19 ?k_19
    (case a_19 => k_is); (case l_19 => k_is); (case c_19 => k_is); (case kk_19 => k_is)
    intro W_first_fraction
    refine' Vx.st_def (x := "whole_worth") (st := Vx.s_whole_worth) KX G ?a_20 ?l_20 ?c_20 ?kk_20 ?k_20
    (case a_20 => k_is); (case l_20 => k_is); (case c_20 => k_is); (case kk_20 => k_is)
    intro W_whole_worth
    refine' Vx.st_def (x := "whole_digits") (st := Vx.s_whole_digits) KX G ?a_21 ?l_21 ?c_21 ?kk_21 ?k_21
    (case a_21 => k_is); (case l_21 => k_is); (case c_21 => k_is); (case kk_21 => k_is)
    intro W_whole_digits
    refine' Vx.st_def (x := "goes_into") (st := Vx.s_goes_into) KX G ?a_22 ?l_22 ?c_22 ?kk_22 ?k_22
    (case a_22 => k_is); (case l_22 => k_is); (case c_22 => k_is); (case kk_22 => k_is)
    intro W_goes_into
    refine' Vx.st_def (x := "whole_shared") (st := Vx.s_whole_shared) KX G ?a_23 ?l_23 ?c_23 ?kk_23 ?k_23
    (case a_23 => k_is); (case l_23 => k_is); (case c_23 => k_is); (case kk_23 => k_is)
    intro W_whole_shared
    refine' Vx.st_def (x := "shared_part") (st := Vx.s_shared_part) KX G ?a_24 ?l_24 ?c_24 ?kk_24 ?k_24
    (case a_24 => k_is); (case l_24 => k_is); (case c_24 => k_is); (case kk_24 => k_is)
    intro W_shared_part
    refine' Vx.st_def (x := "is_led") (st := Vx.s_is_led) KX G ?a_25 ?l_25 ?c_25 ?kk_25 ?k_25
    (case a_25 => k_is); (case l_25 => k_is); (case c_25 => k_is); (case kk_25 => k_is)
    intro W_is_led
    refine' Vx.st_def (x := "is_filled_row") (st := Vx.s_is_filled_row) KX G ?a_26 ?l_26 ?c_26 ?kk_26 ?k_26
    (case a_26 => k_is); (case l_26 => k_is); (case c_26 => k_is); (case kk_26 => k_is)
    intro W_is_filled_row
    refine' Vx.st_def (x := "is_led_row") (st := Vx.s_is_led_row) KX G ?a_27 ?l_27 ?c_27 ?kk_27 ?k_27
    (case a_27 => k_is); (case l_27 => k_is); (case c_27 => k_is); (case kk_27 => k_is)
    intro W_is_led_row
    refine' Vx.st_def (x := "check_row") (st := Vx.s_check_row) KX G ?a_28 ?l_28 ?c_28 ?kk_28 ?k_28
    (case a_28 => k_is); (case l_28 => k_is); (case c_28 => k_is); (case kk_28 => k_is)
    intro W_check_row
    refine' Vx.st_def (x := "check_filled_row") (st := Vx.s_check_filled_row) KX G ?a_29 ?l_29 ?c_29 ?kk_29 ?k_29
    (case a_29 => k_is); (case l_29 => k_is); (case c_29 => k_is); (case kk_29 => k_is)
    intro W_check_filled_row
    refine' Vx.st_def (x := "is_answer") (st := Vx.s_is_answer) KX G ?a_30 ?l_30 ?c_30 ?kk_30 ?k_30
    (case a_30 => k_is); (case l_30 => k_is); (case c_30 => k_is); (case kk_30 => k_is)
    intro W_is_answer
    refine' Vx.st_def (x := "check_answer") (st := Vx.s_check_answer) KX G ?a_31 ?l_31 ?c_31 ?kk_31 ?k_31
    (case a_31 => k_is); (case l_31 => k_is); (case c_31 => k_is); (case kk_31 => k_is)
    intro W_check_answer
    refine' Vx.st_def (x := "made_answer") (st := Vx.s_made_answer) KX G ?a_32 ?l_32 ?c_32 ?kk_32 ?k_32
    (case a_32 => k_is); (case l_32 => k_is); (case c_32 => k_is); (case kk_32 => k_is)
    intro W_made_answer
    refine' Vx.st_def (x := "answer_of") (st := Vx.s_answer_of) KX G ?a_33 ?l_33 ?c_33 ?kk_33 ?k_33
    (case a_33 => k_is); (case l_33 => k_is); (case c_33 => k_is); (case kk_33 => k_is)
    intro W_answer_of
    refine' Vx.st_def (x := "next_number") (st := Vx.s_next_number) KX G ?a_34 ?l_34 ?c_34 ?kk_34 ?k_34
    (case a_34 => k_is); (case l_34 => k_is); (case c_34 => k_is); (case kk_34 => k_is)
    intro W_next_number
    refine' Vx.st_def (x := "first_numbers") (st := Vx.s_first_numbers) KX G ?a_35 ?l_35 ?c_35 ?kk_35 ?k_35
    (case a_35 => k_is); (case l_35 => k_is); (case c_35 => k_is); (case kk_35 => k_is)
    intro W_first_numbers
    refine' Vx.st_def (x := "_law_reel") (st := Vx.s__law_reel) KX G ?a_36 ?l_36 ?c_36 ?kk_36 ?k_36
    (case a_36 => k_is); (case l_36 => k_is); (case c_36 => k_is); (case kk_36 => k_is)
    intro W__law_reel
    refine' Vx.st_def (x := "_law_pull") (st := Vx.s__law_pull) KX G ?a_37 ?l_37 ?c_37 ?kk_37 ?k_37
    (case a_37 => k_is); (case l_37 => k_is); (case c_37 => k_is); (case kk_37 => k_is)
    intro W__law_pull
    refine' Vx.st_def (x := "_law_one_of") (st := Vx.s__law_one_of) KX G ?a_38 ?l_38 ?c_38 ?kk_38 ?k_38
    (case a_38 => k_is); (case l_38 => k_is); (case c_38 => k_is); (case kk_38 => k_is)
    intro W__law_one_of
    refine' Vx.st_def (x := "_law_lowest") (st := Vx.s__law_lowest) KX G ?a_39 ?l_39 ?c_39 ?kk_39 ?k_39
    (case a_39 => k_is); (case l_39 => k_is); (case c_39 => k_is); (case kk_39 => k_is)
    intro W__law_lowest
    refine' Vx.st_def (x := "_law_plus") (st := Vx.s__law_plus) KX G ?a_40 ?l_40 ?c_40 ?kk_40 ?k_40
    (case a_40 => k_is); (case l_40 => k_is); (case c_40 => k_is); (case kk_40 => k_is)
    intro W__law_plus
    refine' Vx.st_def (x := "_law_minus") (st := Vx.s__law_minus) KX G ?a_41 ?l_41 ?c_41 ?kk_41 ?k_41
    (case a_41 => k_is); (case l_41 => k_is); (case c_41 => k_is); (case kk_41 => k_is)
    intro W__law_minus
    refine' Vx.st_def (x := "_law_times") (st := Vx.s__law_times) KX G ?a_42 ?l_42 ?c_42 ?kk_42 ?k_42
    (case a_42 => k_is); (case l_42 => k_is); (case c_42 => k_is); (case kk_42 => k_is)
    intro W__law_times
    refine' Vx.st_def (x := "_law_over") (st := Vx.s__law_over) KX G ?a_43 ?l_43 ?c_43 ?kk_43 ?k_43
    (case a_43 => k_is); (case l_43 => k_is); (case c_43 => k_is); (case kk_43 => k_is)
    intro W__law_over
    refine' Vx.st_def (x := "_law_part") (st := Vx.s__law_part) KX G ?a_44 ?l_44 ?c_44 ?kk_44 ?k_44
    (case a_44 => k_is); (case l_44 => k_is); (case c_44 => k_is); (case kk_44 => k_is)
    intro W__law_part
    refine' Vx.st_def (x := "_law_some") (st := Vx.s__law_some) KX G ?a_45 ?l_45 ?c_45 ?kk_45 ?k_45
    (case a_45 => k_is); (case l_45 => k_is); (case c_45 => k_is); (case kk_45 => k_is)
    intro W__law_some
    refine' Vx.st_def (x := "_law_trim") (st := Vx.s__law_trim) KX G ?a_46 ?l_46 ?c_46 ?kk_46 ?k_46
    (case a_46 => k_is); (case l_46 => k_is); (case c_46 => k_is); (case kk_46 => k_is)
    intro W__law_trim
    refine' Vx.st_def (x := "_law_at") (st := Vx.s__law_at) KX G ?a_47 ?l_47 ?c_47 ?kk_47 ?k_47
    (case a_47 => k_is); (case l_47 => k_is); (case c_47 => k_is); (case kk_47 => k_is)
    intro W__law_at
    refine' Vx.st_def (x := "_law_scaled") (st := Vx.s__law_scaled) KX G ?a_48 ?l_48 ?c_48 ?kk_48 ?k_48
    (case a_48 => k_is); (case l_48 => k_is); (case c_48 => k_is); (case kk_48 => k_is)
    intro W__law_scaled
    refine' Vx.st_def (x := "_law_product") (st := Vx.s__law_product) KX G ?a_49 ?l_49 ?c_49 ?kk_49 ?k_49
    (case a_49 => k_is); (case l_49 => k_is); (case c_49 => k_is); (case kk_49 => k_is)
    intro W__law_product
    refine' Vx.st_def (x := "_law_parted") (st := Vx.s__law_parted) KX G ?a_50 ?l_50 ?c_50 ?kk_50 ?k_50
    (case a_50 => k_is); (case l_50 => k_is); (case c_50 => k_is); (case kk_50 => k_is)
    intro W__law_parted
    refine' Vx.st_def (x := "_law_low") (st := Vx.s__law_low) KX G ?a_51 ?l_51 ?c_51 ?kk_51 ?k_51
    (case a_51 => k_is); (case l_51 => k_is); (case c_51 => k_is); (case kk_51 => k_is)
    intro W__law_low
    refine' Vx.st_def (x := "_law_divisor") (st := Vx.s__law_divisor) KX G ?a_52 ?l_52 ?c_52 ?kk_52 ?k_52
    (case a_52 => k_is); (case l_52 => k_is); (case c_52 => k_is); (case kk_52 => k_is)
    intro W__law_divisor
    refine' Vx.st_def (x := "_law_drawn") (st := Vx.s__law_drawn) KX G ?a_53 ?l_53 ?c_53 ?kk_53 ?k_53
    (case a_53 => k_is); (case l_53 => k_is); (case c_53 => k_is); (case kk_53 => k_is)
    intro W__law_drawn
    refine' Vx.st_def (x := "_law_led") (st := Vx.s__law_led) KX G ?a_54 ?l_54 ?c_54 ?kk_54 ?k_54
    (case a_54 => k_is); (case l_54 => k_is); (case c_54 => k_is); (case kk_54 => k_is)
    intro W__law_led
    refine' Vx.st_def (x := "_law_later") (st := Vx.s__law_later) KX G ?a_55 ?l_55 ?c_55 ?kk_55 ?k_55
    (case a_55 => k_is); (case l_55 => k_is); (case c_55 => k_is); (case kk_55 => k_is)
    intro W__law_later
    refine' Vx.st_def (x := "_law_answer") (st := Vx.s__law_answer) KX G ?a_56 ?l_56 ?c_56 ?kk_56 ?k_56
    (case a_56 => k_is); (case l_56 => k_is); (case c_56 => k_is); (case kk_56 => k_is)
    intro W__law_answer
    refine' Vx.st_def (x := "_law_numbers") (st := Vx.s__law_numbers) KX G ?a_57 ?l_57 ?c_57 ?kk_57 ?k_57
    (case a_57 => k_is); (case l_57 => k_is); (case c_57 => k_is); (case kk_57 => k_is)
    intro W__law_numbers
    refine' Vx.st_def (x := "_law_is_whole") (st := Vx.s__law_is_whole) KX G ?a_58 ?l_58 ?c_58 ?kk_58 ?k_58
    (case a_58 => k_is); (case l_58 => k_is); (case c_58 => k_is); (case kk_58 => k_is)
    intro W__law_is_whole
    refine' Vx.st_def (x := "_law_is_fraction") (st := Vx.s__law_is_fraction) KX G ?a_59 ?l_59 ?c_59 ?kk_59 ?k_59
    (case a_59 => k_is); (case l_59 => k_is); (case c_59 => k_is); (case kk_59 => k_is)
    intro W__law_is_fraction
    refine' Vx.st_def (x := "_law_is_row") (st := Vx.s__law_is_row) KX G ?a_60 ?l_60 ?c_60 ?kk_60 ?k_60
    (case a_60 => k_is); (case l_60 => k_is); (case c_60 => k_is); (case kk_60 => k_is)
    intro W__law_is_row
    refine' Vx.st_def (x := "_law_is_led") (st := Vx.s__law_is_led) KX G ?a_61 ?l_61 ?c_61 ?kk_61 ?k_61
    (case a_61 => k_is); (case l_61 => k_is); (case c_61 => k_is); (case kk_61 => k_is)
    intro W__law_is_led
    refine' Vx.st_def (x := "_law_is_answer") (st := Vx.s__law_is_answer) KX G ?a_62 ?l_62 ?c_62 ?kk_62 ?k_62
    (case a_62 => k_is); (case l_62 => k_is); (case c_62 => k_is); (case kk_62 => k_is)
    intro W__law_is_answer
    refine' Vx.st_def (x := "_law_under") (st := Vx.s__law_under) KX G ?a_63 ?l_63 ?c_63 ?kk_63 ?k_63
    (case a_63 => k_is); (case l_63 => k_is); (case c_63 => k_is); (case kk_63 => k_is)
    intro W__law_under
    refine' Vx.st_def (x := "_law_right") (st := Vx.s__law_right) KX G ?a_64 ?l_64 ?c_64 ?kk_64 ?k_64
    (case a_64 => k_is); (case l_64 => k_is); (case c_64 => k_is); (case kk_64 => k_is)
    intro W__law_right
    refine' Vx.st_def (x := "law") (st := Vx.s_law) KX G ?a_65 ?l_65 ?c_65 ?kk_65 ?k_65
    (case a_65 => k_is); (case l_65 => k_is); (case c_65 => k_is); (case kk_65 => k_is)
    intro W_law
    refine' Vx.st_defC (x := "is_row") (st := Vx.s_is_row) KX G ?a_66 ?l_66 ?cc_66 ?kk_66 ?lc_66 ?hv_66 ?n_66 ?k_66
    (case a_66 => k_is); (case l_66 => k_is); (case cc_66 => k_is); (case kk_66 => k_is); (case lc_66 => k_is); (case hv_66 => rfl); (case n_66 => (first | rfl | kernel_rfl))
    intro WR htab hPn
    refine' Vx.st_non (x := "int") KX G ?a_67 ?k_67
    (case a_67 => k_is)
    intro n_int
    refine' Vx.st_non (x := "len") KX G ?a_68 ?k_68
    (case a_68 => k_is)
    intro n_len
    refine' Vx.st_non (x := "abs") KX G ?a_69 ?k_69
    (case a_69 => k_is)
    intro n_abs
    refine' Vx.st_non (x := "divmod") KX G ?a_70 ?k_70
    (case a_70 => k_is)
    intro n_divmod
    refine' Vx.st_non (x := "range") KX G ?a_71 ?k_71
    (case a_71 => k_is)
    intro n_range
    refine' Vx.st_non (x := "min") KX G ?a_72 ?k_72
    (case a_72 => k_is)
    intro n_min
    refine' Vx.st_non (x := "max") KX G ?a_73 ?k_73
    (case a_73 => k_is)
    intro n_max
    refine' Vx.st_non (x := "all") KX G ?a_74 ?k_74
    (case a_74 => k_is)
    intro n_all
    refine' Vx.st_non (x := "repr") KX G ?a_75 ?k_75
    (case a_75 => k_is)
    intro n_repr
    refine' Vx.st_non (x := "isinstance") KX G ?a_76 ?k_76
    (case a_76 => k_is)
    intro n_isinstance
    refine' Vx.st_non (x := "type") KX G ?a_77 ?k_77
    (case a_77 => k_is)
    intro n_type
    refine' Vx.st_non (x := "tuple") KX G ?a_78 ?k_78
    (case a_78 => k_is)
    intro n_tuple
    refine' Vx.st_non (x := "list") KX G ?a_79 ?k_79
    (case a_79 => k_is)
    intro n_list
    refine' Vx.st_non (x := "zip") KX G ?a_80 ?k_80
    (case a_80 => k_is)
    intro n_zip
    refine' Vx.st_non (x := "enumerate") KX G ?a_81 ?k_81
    (case a_81 => k_is)
    intro n_enumerate
    refine' Vx.st_non (x := "reversed") KX G ?a_82 ?k_82
    (case a_82 => k_is)
    intro n_reversed
    refine' Vx.st_non (x := "bool") KX G ?a_83 ?k_83
    (case a_83 => k_is)
    intro n_bool
    refine' Vx.st_val (x := "gcd") (v := .builtin "math.gcd") KX G ?a_84 ?k_84
    (case a_84 => k_is)
    intro g_gcd
    refine' Vx.st_val (x := "lcm") (v := .builtin "math.lcm") KX G ?a_85 ?k_85
    (case a_85 => k_is)
    intro g_lcm
    refine' Vx.st_fr (x := "NIL") (i := 0) (j := 1) KX G ?a_86 ?l_86 ?k_86
    (case a_86 => k_is); (case l_86 => k_is)
    intro g_nil q_nil
    refine' Vx.st_fr (x := "ONE") (i := 1) (j := 1) KX G ?a_87 ?l_87 ?k_87
    (case a_87 => k_is); (case l_87 => k_is)
    intro g_one q_one
    refine' Vx.st_int (x := "MOST_NUMBERS") (i := 60) KX G ?a_88 ?k_88
    (case a_88 => k_is)
    intro g_most
    exact Vx.law_all hmg ⟨⟨n_int, n_len, n_abs, n_divmod, n_range, n_min, n_max, n_all, n_repr, n_isinstance⟩, n_type, n_tuple, n_list, n_zip, n_enumerate, n_reversed, g_gcd⟩ ⟨g_nil, q_nil⟩ g_lcm n_bool ⟨g_one, fun H => Vx.frt_int 1 (q_one H)⟩ (by rfl) g_most WR htab hPn W_is_whole W_is_fraction W_check_number W_ratio W_ratio_less W_ratio_product W_ratio_over W_without_end W_trimmed W_cleared W_row_over W_scaled W_whole_split W_split_row W_quotient_of W_common_factor W_divided W_primitive W_first_fraction W_whole_worth W_whole_digits W_goes_into W_whole_shared W_shared_part W_is_led W_is_filled_row W_is_led_row W_check_row W_check_filled_row W_is_answer W_check_answer W_made_answer W_answer_of W_next_number W_first_numbers W__law_reel W__law_pull W__law_one_of W__law_lowest W__law_plus W__law_minus W__law_times W__law_over W__law_part W__law_some W__law_trim W__law_at W__law_scaled W__law_product W__law_parted W__law_low W__law_divisor W__law_drawn W__law_led W__law_later W__law_answer W__law_numbers W__law_is_whole W__law_is_fraction W__law_is_row W__law_is_led W__law_is_answer W__law_under W__law_right W_law
