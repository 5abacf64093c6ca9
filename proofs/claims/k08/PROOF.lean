import PyProof.Rows.All
import Wide.All
import OpenK.AllK
import Wide.FinOn
import HandS.ForMost
import HandS.ExcInit
import HandS.WideBits
import HandS.Wide
import HandS.CallSlots
import HandS.FStrTup
import HandS.ExcIs
import HandS.ExcField
import HandS.ExcValue
import KE.KIsAll
import KE.KTryMore
import HandS.AnyAll
import HandS.EndTab
import HandS.Gcd
import HandS.More
import HandS.Zip
import HandS.Rev
import HandS.TupMul
import HandS.TupAny
import HandS.Walk
import HandS.MakeKwOnly
import HandS.Style
import HandS.RevRange
import HandS.Conv
import HandS.IsInst
import PySem.Challenge.RW_allhelms_k08_whole_quick_rows
set_option Elab.async false
set_option linter.all false
set_option maxRecDepth 100000
set_option maxHeartbeats 4000000
namespace Vx
open PySem PySem.Spec PyProof.Rows L2

/-- no repr is under way -/
abbrev Ng (A : Around) : Prop := A.guards = some []

/-- a promise that is kept where no repr is under way -/
structure FnG (P : Program) (w : World) (K : PySem.W.Frag) (mg : Str → Option Value) (base : Heap) (Z : CXT) (k : Nat)
    (f : Addr) (fd : FuncData) (ps : List Str) (sp : Sp) : Prop where
  len : ∀ vs H Q E, sp vs H Q E → vs.length = ps.length
  go : ∀ (A : Around) (out : List Env) (s : Shared) (H : Hp) (ar : Args) (us : List Value) (vs : List V) (Q : VK) (E : XK),
    Room k A → Ng A → Env0 P w K mg base A out s H → BindsTo s fd ar (ps.zip us) → Vals vs us → sp vs H Q E →
      codeAny (model P w) A (.call (.ref f) ar) (CR Z out P w H s Q E) s

section
variable {P : Program} {w : World} {K : PySem.W.Frag} {mg : Str → Option Value} {base : Heap} {Z : CXT} {k : Nat} {f : Addr}
theorem FnG.of {fd : FuncData} {ps : List Str} {sp : Sp} (F : FnOk P w K mg base Z k f fd ps sp) : FnG P w K mg base Z k f fd ps sp :=
  ⟨F.len, fun A o s H ar us vs Q E r _ e b v h => F.run A o s H ar us vs Q E r e b v h⟩

theorem gfn {nm qn : Str} {pr : Arguments} {body : List Stmt} {sc : Scope} {dV kV doc pm cv ct oc : Value} {an od : Option Addr}
    {osl : Array (Option Value)} {N ps : List Str} {sp : Sp}
    (lk : K.lookup f = some ⟨oc, od, .func (PySem.W.fnOf nm qn pr body sc dV kV doc pm an cv ct), osl⟩)
    (hc : PySem.W.codeIn K cv qn = true) (S : FnScope N ps sc) (len : ∀ vs H Q E, sp vs H Q E → vs.length = ps.length)
    (hb : ∀ (A : Around) (out : List Env) (s : Shared) (H : Hp) (vs : List V) (Q : VK) (E : XK), Ng A →
      Room k (A.deeper (envOfC qn sc s.heap.objs.size f cv)) → sp vs H Q E →
      ∃ t, PSs (cxOf Z P w K mg base N qn sc f cv A out s H E) body t ∧
        t { nx := fun _ H' => Q .non H', rt := Q } (start N vs) H) :
    FnG P w K mg base Z (k + 1) f (PySem.W.fnOf nm qn pr body sc dV kV doc pm an cv ct) ps sp := by
  refine ⟨len, ?_⟩
  intro A out s H ar us vs Q E hr hg e0 hbd r hsp
  have L := len _ _ _ _ hsp
  have KX : K.In s.heap := e0.mod.kin.keeps (fun b o e => (e0.bs b o e).1)
  have lim : s.heap.NoLimit := e0.mod.nolimit.keeps (fun b o e => (e0.bs b o e).1)
  have kd : ∀ y ∈ ps.zip us, sc.names.lookup y.1 = some .local ∨
      (sc.names.lookup y.1 = some .cell ∧ ((cellsFrom (s.heap.objs.size + 1) sc.names []).lookup y.1).isSome = true) := by
    rintro ⟨n, v⟩ hy
    rcases S.par n (List.of_mem_zip hy).1 with q | q
    · exact Or.inl q
    · exact Or.inr ⟨q, PySem.W.cellsFrom_some _ _ _ (Or.inl q)⟩
  refine codeAny_call_function hr.depth (KX _ _ lk) rfl S.co S.gen rfl (PySem.W.codeRec_of KX hc) (hbd _ _ _ _ ?_)
  refine wpAny_newFunctionEnv_cells S.kind kd ?_
  intro env he s1 x
  subst he
  refine ⟨lim.keeps x.toInCall.keep, codeAny_func ?_⟩
  obtain ⟨t, ht, hq⟩ := hb A out s H vs Q E hg (hr.deeper _) hsp
  have I := inv_start (CX := Z) (E := E) S hr.hd e0 L r x
  refine wpAny_mono (ht.run [] s1 (start N vs) H _ I hq) ?_ (fun _ _ z => z)
  intro fl s' hs
  cases fl with
  | ret u =>
    obtain ⟨v, σ', H', J, rv, q⟩ := hs
    exact ⟨v, H', J.os, J.bare, J.base, J.hok, rv, q⟩
  | next =>
    obtain ⟨σ', H', J, q⟩ := hs
    exact ⟨V.non, H', J.os, J.bare, J.base, J.hok, rfl, q⟩
  | brk =>
    obtain ⟨_, _, _, q⟩ := hs
    exact q.elim
  | cont =>
    obtain ⟨_, _, _, q⟩ := hs
    exact q.elim

/-- a def from which no exception leaves -/
theorem gok {x qn : Str} {st : Stmt} {fd : FuncData} {N ps : List Str} {sp : Sp} (F : Fun K x qn st f fd) (S : FnScope N ps (defScope st))
    (len : ∀ vs H Q E, sp vs H Q E → vs.length = ps.length)
    (hb : ∀ (cv : Value) (A : Around) (out : List Env) (s : Shared) (H : Hp) (vs : List V) (Q : VK) (E : XK), Ng A →
      Room k (A.deeper (envOfC qn (defScope st) s.heap.objs.size f cv)) → sp vs H Q E →
      ∃ t, PSs (cxOf CX0 P w K mg base N qn (defScope st) f cv A out s H E).nox (defBody st) t ∧
        t { nx := fun _ H' => Q .non H', rt := Q } (start N vs) H) : FnG P w K mg base CX0 (k + 1) f fd ps sp := by
  obtain ⟨oc, od, kV, doc, pm, an, cv, ct, osl, rfl, lk, hc⟩ := F.ex
  refine gfn lk hc S len ?_
  intro A out s H vs Q E hg hr hsp
  obtain ⟨t, h, q⟩ := hb cv A out s H vs Q E hg hr hsp
  exact ⟨t, h.nox, q⟩
end

section
variable {X : Cx} {Z : CXT} {k : Nat} {f : Addr} {fd : FuncData} {ps : List Str} {sp : Sp} {dvs : List V} {ds : List Value}
  {E : XK} {x : Str} {p pos : Pos} {e : Expr} {es : List Expr} {t : TA}
/-- f(e, ..) of such a def -/
theorem pe_g (F : FnG X.prog X.w X.K X.mg X.base Z k f fd ps sp) (hr : Room k X.A) (ng : Ng X.A) (hg : Gl X x) (hm : X.mg x = some (.ref f))
    (hk : PySem.W.keepIn X.K (.ref f) = true) (hb : Binds X.K fd ps ds) (hd : Vals dvs ds) (hx : Passes Z X E) (ha : PA X (e :: es) t)
    (hdb : (x == ("__debug__" : Str)) = false := by decide)
    (he : starEach (e :: es) X.env = (false, eval e X.env) :: starEach es X.env := by rfl)
    (hpl : (backTo pos (starEach es X.env)).any (·.1) = false := by rfl) :
    PE X (.Call (.Name x p) (e :: es) [] pos) (tCall sp dvs E t) := by
  refine ⟨fun pins s σ H Q I h => ?_⟩
  refine wpAny_Call_Name_kw (ld_glob I hg hm ?_ hdb)
  refine PySem.W.callWith_K (h₀ := X.base) I.ok.mod.kin hk (thn (ha.run pos pins s σ H _ I h) ?_) he hpl
  rintro us s1 ⟨vs, H1, I1, r, q⟩
  refine ⟨I1.kIn, ?_⟩
  have r2 : Vals (vs ++ dvs) (us ++ ds) := r.append hd
  have L : (us ++ ds).length = ps.length := r2.length.symm.trans (F.len _ _ _ _ q)
  refine wpAny_call (codeAny_mono (F.go X.A X.stack s1 H1 ⟨us, []⟩ (us ++ ds) (vs ++ dvs) Q E hr ng I1.env0 (hb s1 us I1.kIn L) r2 q) ?_)
  intro r s' hq
  cases r with
  | error e => exact hx pins σ H1 s1 e s' I1 hq
  | ok fl =>
    cases fl with
    | ret u => exact I1.after hq
    | next => exact hq.elim
    | brk => exact hq.elim
    | cont => exact hq.elim
end

/-! what an abstract heap shows -/
mutual
/-- v is the data d -/
inductive Rp (K : PySem.W.Frag) (H : Hp) : V → PyData → Prop
  | non : Rp K H .non .none
  | bl (b : Bool) : Rp K H (.bl b) (.bool b)
  | int (i : Int) : Rp K H (.int i) (.int i)
  | str (x : Str) : Rp K H (.str x) (.str x)
  | lst {a : Addr} {xs : List V} {ds : List PyData} : SqL K H a xs → RpA K H xs ds → Rp K H (.ref a) (.list ds)
  | tup {a : Addr} {xs : List V} {ds : List PyData} : SqT K H a xs → RpA K H xs ds → Rp K H (.ref a) (.tuple ds)
  | dic {a : Addr} {kvs : List (Key × V)} {ds : List PyData} : H a = some (.dK kvs) → RpA K H (kvs.map (·.2)) ds →
      Rp K H (.ref a) (.dict ((kvs.map fun p => match p.1 with | .inl i => PyData.int i | .inr x => PyData.str x).zip ds))
inductive RpA (K : PySem.W.Frag) (H : Hp) : List V → List PyData → Prop
  | nil : RpA K H [] []
  | cons {v : V} {vs : List V} {d : PyData} {ds : List PyData} : Rp K H v d → RpA K H vs ds → RpA K H (v :: vs) (d :: ds)
end

theorem RpA.length {K : PySem.W.Frag} {H : Hp} : ∀ {vs : List V} {ds : List PyData}, RpA K H vs ds → vs.length = ds.length
  | _, _, .nil => rfl
  | _, _, .cons _ t => by rw [List.length_cons, List.length_cons, RpA.length t]

/-- tracked things stay -/
theorem same_seqT {K : PySem.W.Frag} {H H' : Hp} {a : Addr} {xs : List V} (e : Same H H') (h : SqT K H a xs) : SqT K H' a xs := by
  rcases h with (h | ⟨o, h⟩) | h
  · exact Or.inl (Or.inl (e _ _ h))
  · exact Or.inl (Or.inr ⟨o, e _ _ h⟩)
  · exact Or.inr h
mutual
theorem Rp.mono {K : PySem.W.Frag} {H H' : Hp} (e : Same H H') : ∀ {v : V} {d : PyData}, Rp K H v d → Rp K H' v d
  | _, _, .non => .non
  | _, _, .bl b => .bl b
  | _, _, .int i => .int i
  | _, _, .str x => .str x
  | _, _, .lst h r => .lst (e.seq h) (RpA.mono e r)
  | _, _, .tup h r => .tup (same_seqT e h) (RpA.mono e r)
  | _, _, .dic h r => .dic (e _ _ h) (RpA.mono e r)
theorem RpA.mono {K : PySem.W.Frag} {H H' : Hp} (e : Same H H') : ∀ {vs : List V} {ds : List PyData}, RpA K H vs ds → RpA K H' vs ds
  | _, _, .nil => .nil
  | _, _, .cons a t => .cons (Rp.mono e a) (RpA.mono e t)
end

/-- sys.modules stands in the heap as a dict -/
def Sys (h : Heap) : Prop := (∃ o es n, h.get? sysModules = some o ∧ o.data = .dict es n) ∧ h.NoLimit ∧ h.NoSeer

theorem pairs_keys {P : Program} {w : World} {h : Heap} : ∀ {es : List DictEntry} {kvs : List (Key × Value)}, Pairs (mixKind P w) es kvs →
    ReadsAll h (es.map (·.key)) (kvs.map fun p => match p.1 with | .inl i => PyData.int i | .inr x => PyData.str x) []
  | _, _, .nil => .nil
  | _, _, .cons (e := e) (kv := kv) hk _ t => by
    have r := pairs_keys (h := h) t
    rw [List.map_cons, List.map_cons]
    obtain ⟨k, v⟩ := kv
    have hk' : keyIs k e.key = true := hk
    rcases keyIs_shape hk' with ⟨i, t, rfl, e2⟩ | ⟨x, t, rfl, e2⟩
    · rw [e2]; exact ReadsAll.cons (as := []) (.int i t) r
    · rw [e2]; exact ReadsAll.cons (as := []) (.str x t) r
theorem pairs_vals {P : Program} {w : World} : ∀ {es : List DictEntry} {kvs : List (Key × Value)}, Pairs (mixKind P w) es kvs → es.map (·.val) = kvs.map (·.2)
  | _, _, .nil => rfl
  | _, _, .cons _ hv t => by rw [List.map_cons, List.map_cons, pairs_vals t, hv]
theorem kv_fst : ∀ {kvs : List (Key × V)} {vs : List (Key × Value)}, KV kvs vs → kvs.map (·.1) = vs.map (·.1)
  | _, _, .nil => rfl
  | _, _, .cons h t => by rw [List.map_cons, List.map_cons, kv_fst t, h.1]
theorem kv_snd : ∀ {kvs : List (Key × V)} {vs : List (Key × Value)}, KV kvs vs → Vals (kvs.map (·.2)) (vs.map (·.2))
  | _, _, .nil => .nil
  | _, _, .cons h t => .cons h.2 (kv_snd t)

section
variable {X : Cx} {pins : List (Addr × Obj)} {σ : L2.St} {H : Hp} {s : Shared}
theorem Inv.sys_ne (I : Inv X pins σ H s) (S : Sys X.base) {a : Addr} {o : HO} (h : H a = some o) : a ≠ sysModules := fun z => by
  obtain ⟨⟨ob, _, _, hb, _⟩, _⟩ := S
  have q := (I.bs _ _ hb).2
  rw [z] at h
  rw [h] at q
  cases q
theorem Inv.sys_seq (I : Inv X pins σ H s) (S : Sys X.base) {a : Addr} {o : Obj} {vs : Array Value} {n : Nat} (h : s.heap.get? a = some o) (d : o.data = .seq vs n) : a ≠ sysModules := fun z => by
  obtain ⟨⟨ob, es, m, hb, hd⟩, _⟩ := S
  have q := (I.bs _ _ hb).1
  rw [z, q] at h
  cases h
  rw [hd] at d
  cases d
mutual
theorem Rp.reads (I : Inv X pins σ H s) (S : Sys X.base) : ∀ {v : V} {d : PyData} {u : Value}, Rp X.K H v d → RelV v u →
    ∃ as, Reads s.heap u d as ∧ sysModules ∉ as
  | _, _, _, .non, r => ⟨[], by cases r; exact .none, List.not_mem_nil⟩
  | _, _, _, .bl b, r => ⟨[], by cases r; exact .bool b, List.not_mem_nil⟩
  | _, _, _, .int i, r => ⟨[], by obtain ⟨t, rfl⟩ := r; exact .int i t, List.not_mem_nil⟩
  | _, _, _, .str x, r => ⟨[], by obtain ⟨t, rfl⟩ := r; exact .str x t, List.not_mem_nil⟩
  | _, _, _, .lst (a := a) h q, r => by
    cases r
    obtain ⟨its, rv, ⟨o, n, ho, hc, _, hd⟩, _⟩ := I.list h
    obtain ⟨as, ra, na⟩ := RpA.reads I S q rv
    refine ⟨a :: as, .list ho hc hd (by simpa using ra), fun z => ?_⟩
    rcases List.mem_cons.mp z with z | z
    · exact Inv.sys_seq I S ho hd z.symm
    · exact na z
  | _, _, _, .tup (a := a) h q, r => by
    cases r
    obtain ⟨its, rv, ⟨o, ho, hc, n, hd⟩, _⟩ := I.tuple h
    obtain ⟨as, ra, na⟩ := RpA.reads I S q rv
    exact ⟨as, .tuple ho hc hd (by simpa using ra), na⟩
  | _, _, _, .dic (a := a) (kvs := kvs) (ds := ds) h q, r => by
    cases r
    obtain ⟨hl, hn, vs, kv, o, es, ep, ho, hx, hd, _, hp, _⟩ := I.hok a _ h
    obtain ⟨as, ra, na⟩ := RpA.reads I S q (kv_snd kv)
    have hlen : (kvs.map fun p => match p.1 with | .inl i => PyData.int i | .inr x => PyData.str x).length = ds.length := by
      rw [List.length_map, ← RpA.length q, List.length_map]
    have ek : (kvs.map fun p => match p.1 with | .inl i => PyData.int i | .inr x => PyData.str x) = (vs.map fun p => match p.1 with | .inl i => PyData.int i | .inr x => PyData.str x) := by
      have := congrArg (List.map fun k : Key => match k with | .inl i => PyData.int i | .inr x => PyData.str x) (kv_fst kv)
      simpa [List.map_map, Function.comp_def] using this
    refine ⟨a :: [] ++ as, .dict (n := ep) (es := es) ho hx.1 hd ?_ ?_, fun z => ?_⟩
    · rw [List.map_fst_zip (by rw [hlen]; exact Nat.le_refl _), ek]
      exact pairs_keys hp
    · rw [List.map_snd_zip (by rw [hlen]; exact Nat.le_refl _), pairs_vals hp]
      exact ra
    · rcases List.mem_cons.mp z with z | z
      · rw [← z] at hn
        exact absurd hn (by decide)
      · exact na z
theorem RpA.reads (I : Inv X pins σ H s) (S : Sys X.base) : ∀ {vs : List V} {ds : List PyData} {us : List Value}, RpA X.K H vs ds → Vals vs us →
    ∃ as, ReadsAll s.heap us ds as ∧ sysModules ∉ as
  | _, _, _, .nil, r => by cases r; exact ⟨[], .nil, List.not_mem_nil⟩
  | _, _, _, .cons h t, r => by
    cases r with
    | cons r1 r2 =>
      obtain ⟨a1, q1, n1⟩ := Rp.reads I S h r1
      obtain ⟨a2, q2, n2⟩ := RpA.reads I S t r2
      exact ⟨a1 ++ a2, .cons q1 q2, fun z => (List.mem_append.mp z).elim n1 n2⟩
end
/-- repr of a list, a tuple, a dict -/
theorem call_repr (S : Sys X.base) (ng : Ng X.A) (hu : X.A.units + 64 < cLine) : CallR X (.builtin "repr") (fun xs H Q => ∃ a d, xs = [.ref a] ∧ Rp X.K H (.ref a) d ∧
    d.showable = true ∧ d.depth < 60 ∧ d.shown.length ≤ sizeLine ∧ Q (.str d.shown) H) := by
  intro pins s σ H xs us Q I r h
  obtain ⟨a, d, rfl, hr, hs, hd, hz, q⟩ := h
  obtain ⟨u, rfl, ru⟩ := vals1 r
  cases ru
  obtain ⟨as, ra, na⟩ := Rp.reads I S hr (show RelV (V.ref a) (Value.ref a) from rfl)
  refine repr_of_reads' ra hs (fun _ => na) ng (by omega) (fun _ _ z => z) (fun h' u tk hk => ?_) hz
  exact ⟨.str _, H, I.kept hk, ⟨_, rfl⟩, q⟩
end
end Vx
namespace Vx
open PySem PySem.Spec PyProof.Rows L2

theorem sys_of {h : Heap} (n : h.NoSeer) (l : h.NoLimit) : Sys h := by
  obtain ⟨mm, ⟨o, es, ep, ho, hd, _⟩, _⟩ := n.mods
  exact ⟨⟨o, es, ep, ho, hd⟩, l, n⟩
theorem noseer_hid {h h' : Heap} (n : h.NoSeer) (nsB : ∀ {b : Addr} {m : Str → Option Value}, h.Ns b m → h'.Ns b m) (md : ∀ b o, h.get? b = some o → o.cls = .type "module" → h'.get? b = some o) : h'.NoSeer where
  statics := let ⟨mc, a, b⟩ := n.statics; ⟨mc, nsB a, b⟩
  mods := let ⟨mc, a, b⟩ := n.mods; ⟨mc, nsB a, b⟩
  imp := let ⟨mc, a, b⟩ := n.imp; ⟨mc, nsB a, b⟩
  main := let ⟨mg, bm, ob, a, b, c, d, e⟩ := n.main; ⟨mg, bm, ob, nsB a, b, md _ _ c d, d, e⟩

/-- from any abstract heap that holds the script alone -/
theorem call_end {P : Program} {w : World} {K : PySem.W.Frag} {mg mb : Str → Option Value} {k : Nat} {fa a : Addr} {fd : FuncData} {x : Str} {sp : Sp}
    {s₁ : Shared} {vs : List Value} {xs : List V} {H : Hp} (KX : K.In s₁.heap) (hns : s₁.heap.Ns mainGlobals mg) (hb : s₁.heap.Ns builtinsNs mb)
    (hbb : ∀ x : Str, x ≠ "__name__" → mb x = bootBuiltins x) (lim : s₁.heap.NoLimit) (sy : Sys s₁.heap) (hg : s₁.gens = #[])
    (ha : s₁.heap.get? a = some { cls := .type "list", data := .seq vs.toArray }) (hr : Room k callerA)
    (F : ∀ base : Heap, K.In base → base.Ns mainGlobals mg → Sys base → FnG P w K mg base CX0 k fa fd [x] sp)
    (hbind : ∀ (s : Shared) (u : Value), BindsTo s fd ⟨[u], []⟩ [(x, u)])
    (hsp : sp [.ref a] H (fun v _ => v = .bl true) fun _ _ _ => False) (hO : Only H) (ok : HOk P w H s₁.heap)
    (only : ∀ b, H b ≠ none → b = a) (hK : H a ≠ none → K.lookup a = none) :
    codeAny (model P w) callerA (.call (.ref fa) ⟨[.ref a], []⟩)
      (fun r s' => r = .ok (.ret (.bool true)) ∧ OldK s₁.heap s'.heap ∧ s'.os = s₁.os ∧ AllBare s'.gens) s₁ := by
  have nd : ∀ {b : Addr} {o : Obj} {es : Array DictEntry} {ep : Nat}, s₁.heap.get? b = some o → o.data = .dict es ep → H b = none := by
    intro b o es ep e d
    cases q : H b with
    | none => rfl
    | some u =>
      have z := only b (by rw [q]; exact fun z => nomatch z)
      rw [z, ha] at e
      cases e
      cases (show Data.seq vs.toArray _ = Data.dict es ep from d)
  have nsB : ∀ {b : Addr} {m : Str → Option Value}, s₁.heap.Ns b m → (hidT s₁.heap H).Ns b m := by
    rintro b m ⟨o, es, ep, e, d, r⟩
    exact ⟨o, es, ep, hidT_get e (nd e d), d, r⟩
  have kB : K.In (hidT s₁.heap H) := by
    intro b o e
    refine hidT_get (KX b o e) ?_
    cases q : H b with
    | none => rfl
    | some u =>
      have z := only b (by rw [q]; exact fun z => nomatch z)
      rw [z] at q e
      rw [hK (by rw [q]; exact fun z => nomatch z)] at e
      cases e
  have sB : Sys (hidT s₁.heap H) := by
    obtain ⟨⟨o, es, n, e, d⟩, ⟨mc, h1, h2⟩, sn⟩ := sy
    refine ⟨⟨o, es, n, hidT_get e (nd e d), d⟩, ⟨mc, nsB h1, h2⟩, noseer_hid sn nsB fun b o e2 hc => hidT_get e2 ?_⟩
    cases q : H b with
    | none => rfl
    | some u =>
      have z := only b (by rw [q]; exact fun z => nomatch z)
      rw [z, ha] at e2
      cases e2
      exact absurd (Value.type.inj hc) (by decide)
  have md : Mod K mg (hidT s₁.heap H) := ⟨kB, nsB hns, ⟨mb, nsB hb, hbb⟩, let ⟨mc, h1, h2⟩ := lim; ⟨mc, nsB h1, h2⟩⟩
  have e0 : Env0 P w K mg (hidT s₁.heap H) callerA [] s₁ H :=
    ⟨rfl, md, fun b o e => of_hidT e, Nat.le_of_eq (hidT_size _ _), trivial, fun b z => absurd z List.not_mem_nil, ok, .of_eq hg⟩
  refine codeAny_mono ((F _ kB (nsB hns) sB).go callerA [] s₁ H ⟨[.ref a], []⟩ [.ref a] [.ref a] _ _ hr rfl e0 (hbind s₁ (.ref a)) (.cons rfl .nil) hsp) ?_
  intro r s' h
  cases r with
  | error e => exact h.elim
  | ok fl =>
    cases fl with
    | next => exact h.elim
    | brk => exact h.elim
    | cont => exact h.elim
    | ret u =>
      obtain ⟨v, H', os, bare, un, ok', r', q⟩ := h
      have q' : v = .bl true := q
      subst q'
      obtain rfl : u = Value.bool true := r'
      refine ⟨rfl, OldK.of_keep fun b o e => ?_, os, bare⟩
      rcases hO b with z | ⟨ob, ys, z⟩
      · exact un.keep b o e z List.not_mem_nil List.not_mem_nil
      · obtain ⟨e1, _⟩ := ok b _ z
        obtain ⟨e2, _⟩ := ok' b _ (un.frzs b ob _ z)
        rw [e] at e1
        cases e1
        exact e2

theorem law_end {P : Program} {w : World} {K : PySem.W.Frag} {mg mb : Str → Option Value} {k : Nat} {fa a : Addr} {fd : FuncData} {x : Str} {sp : Sp}
    {s₁ : Shared} {vs : List Value} {ns : List Int} (KX : K.In s₁.heap) (hns : s₁.heap.Ns mainGlobals mg) (hb : s₁.heap.Ns builtinsNs mb)
    (hbb : ∀ x : Str, x ≠ "__name__" → mb x = bootBuiltins x) (lim : s₁.heap.NoLimit) (sy : Sys s₁.heap) (hg : s₁.gens = #[])
    (ha : s₁.heap.get? a = some { cls := .type "list", data := .seq vs.toArray }) (hi : IntsAre vs ns) (hl : ns.length ≤ sizeLine) (hr : Room k callerA)
    (F : ∀ base : Heap, K.In base → base.Ns mainGlobals mg → Sys base → FnG P w K mg base CX0 k fa fd [x] sp)
    (hbind : ∀ (s : Shared) (u : Value), BindsTo s fd ⟨[u], []⟩ [(x, u)])
    (hsp : ∀ H : Hp, SqL K H a (ns.map V.int) → sp [.ref a] H (fun v _ => v = .bl true) fun _ _ _ => False) :
    codeAny (model P w) callerA (.call (.ref fa) ⟨[.ref a], []⟩)
      (fun r s' => r = .ok (.ret (.bool true)) ∧ OldK s₁.heap s'.heap ∧ s'.os = s₁.os ∧ AllBare s'.gens) s₁ := by
  have rv := vals_ints hi
  have lv := hi.length
  have hl' : (ns.map V.int).length ≤ sizeLine := by rw [List.length_map]; exact hl
  cases hk : K.lookup a with
  | some o =>
    have e := KX a o hk
    rw [ha] at e
    cases e
    have sq : SqL K (fun _ => none) a (ns.map V.int) := Or.inr ⟨_, vs.toArray, _, hk, rfl, rfl, rfl, by rw [List.size_toArray, lv]; exact hl, by simpa using rv⟩
    have no : ∀ (b : Addr) (u : HO), ¬ ((fun _ : Addr => (none : Option HO)) b = some u) := fun b u z => nomatch z
    exact call_end (xs := ns.map V.int) (H := fun _ => none) KX hns hb hbb lim sy hg ha hr F hbind (hsp _ sq) (fun _ => Or.inl rfl) (fun b u z => absurd z (no b u)) (fun b z => absurd rfl z) fun z => absurd rfl z
  | none =>
    have at_a : (fun b : Addr => if b = a then some (HO.frz { cls := .type "list", data := .seq vs.toArray } (.lst (ns.map V.int))) else none) a = some (HO.frz { cls := .type "list", data := .seq vs.toArray } (.lst (ns.map V.int))) := if_pos rfl
    have off : ∀ b : Addr, b ≠ a → (fun b : Addr => if b = a then some (HO.frz { cls := .type "list", data := .seq vs.toArray } (.lst (ns.map V.int))) else none) b = none := fun b h => if_neg h
    generalize (fun b : Addr => if b = a then some (HO.frz { cls := .type "list", data := .seq vs.toArray } (.lst (ns.map V.int))) else none) = H at at_a off
    have sq : SqL K H a (ns.map V.int) := Or.inl (Or.inr ⟨_, at_a⟩)
    refine call_end (xs := ns.map V.int) (H := H) KX hns hb hbb lim sy hg ha hr F hbind (hsp _ sq) (fun b => ?_) (fun b u z => ?_) (fun b z => ?_) fun _ => hk
    · by_cases h : b = a
      · exact Or.inr ⟨_, _, by rw [h]; exact at_a⟩
      · exact Or.inl (off b h)
    · by_cases h : b = a
      · subst h
        rw [at_a] at z
        cases z
        exact ⟨ha, hl', vs, _, rv, ha⟩
      · rw [off b h] at z
        cases z
    · by_cases h : b = a
      · exact h
      · exact absurd (off b h) z

/-- the goal that k_head leaves, from the promise of law's def -/
theorem walk_g {l : PySem.W.OpenLaw} {n k : Nat} {q : Program} {loose : List Str} {XP : (Str → Option Value) → Heap → Prop} {YP : World → Heap → Prop}
    {d : DefRec} {K : Params → PySem.W.Frag} {sp : World → Sp} {x : Str} (hn : l.most = some n) (hn2 : n ≤ sizeLine) (hdf : d.params.defaults = [])
    (hr : Room k callerA) (him : importsNone q = true) (hY : ∀ (w : World) (h : Heap), YP w h → (K w.params).In h)
    (F : ∀ (w : World) (mg : Str → Option Value) (fa : Addr) (h : Heap), (K w.params).In h → h.Ns mainGlobals mg → mg d.name = some (.ref fa) →
      ∃ fd : FuncData, (∀ (s : Shared) (u : Value), BindsTo s fd ⟨[u], []⟩ [(x, u)]) ∧
        ∀ base : Heap, (K w.params).In base → base.Ns mainGlobals mg → Sys base → FnG l.prog w (K w.params) mg base CX0 k fa fd [x] (sp w))
    (hsp : ∀ (w : World) (H : Hp) (a : Addr) (ns : List Int), ns.length ≤ n → SqL (K w.params) H a (ns.map V.int) →
      sp w [.ref a] H (fun v _ => v = .bl true) fun _ _ _ => False) :
    PySem.W.WalkO q loose XP YP l.row.toRowW d [] (fun f vs => PySem.call f vs) := by
  refine Att.attach_call hn hdf ?_
  intro w s₀ s₁ mg mb fa o pm cd doc a vs ns G Y ho hd hcd hmg hobj hints hlen hg
  have KX := hY w _ Y
  obtain ⟨fd, hb, hF⟩ := F w mg fa _ KX G.T.g hmg
  exact law_end KX G.T.g G.T.b G.T.builtins G.T.nolimit (sys_of (G.T.seer him) G.T.nolimit) hg hobj hints (Nat.le_trans hlen hn2) hr hF hb (fun H hS => hsp w H a ns hlen hS)
end Vx
namespace Vx
open PySem PySem.Spec PyProof.Rows L2

/-- the def x of the text stands behind the top -/
def FunIn (K : PySem.W.Frag) (mg : Str → Option Value) (x : Str) (st : Stmt) : Prop := ∃ f fd, Fun K x x st f fd ∧ mg x = some (.ref f)
theorem funIn {K : PySem.W.Frag} {h : Heap} {mg : Str → Option Value} {x : Str} {st : Stmt} (X : K.In h) (G : h.Ns mainGlobals mg) {f : Addr} {oc kV dc pm cd ct : Value} {od an : Option Addr} {sl : Array (Option Value)}
    (a : PySem.W.nsIn K mainGlobals x = some (some (.ref f)))
    (l : K.lookup f = some ⟨oc, od, .func (PySem.W.fnOf x x (defArgs st) (defBody st) (defScope st) .none kV dc pm an cd ct), sl⟩)
    (c : PySem.W.codeIn K cd x = true) (k : PySem.W.keepIn K (.ref f) = true) : FunIn K mg x st :=
  ⟨f, _, fun_mk (st := st) l c k, PySem.W.mg_of X G a⟩

/-- a def that keeps its promise, by its name -/
structure Df (P : Program) (w : World) (K : PySem.W.Frag) (mg : Str → Option Value) (base : Heap) (x : Str) (k : Nat) (ps : List Str) (sp : Sp) : Prop where
  ex : ∃ f fd, FnOk P w K mg base CX0 k f fd ps sp ∧ mg x = some (.ref f) ∧ PySem.W.keepIn K (.ref f) = true ∧ Binds K fd ps []
structure Dg (P : Program) (w : World) (K : PySem.W.Frag) (mg : Str → Option Value) (base : Heap) (x : Str) (k : Nat) (ps : List Str) (sp : Sp) : Prop where
  ex : ∃ f fd, FnG P w K mg base CX0 k f fd ps sp ∧ mg x = some (.ref f) ∧ PySem.W.keepIn K (.ref f) = true ∧ Binds K fd ps []
section
variable {X : Cx} {k : Nat} {ps : List Str} {sp : Sp} {x : Str} {p pos : Pos} {e : Expr} {es : List Expr} {t : TA}
theorem pe_d (D : Df X.prog X.w X.K X.mg X.base x k ps sp) (hr : Room k X.A) (hg : Gl X x) (ha : PA X (e :: es) t)
    (hdb : (x == ("__debug__" : Str)) = false := by decide)
    (he : starEach (e :: es) X.env = (false, eval e X.env) :: starEach es X.env := by rfl)
    (hpl : (backTo pos (starEach es X.env)).any (·.1) = false := by rfl) :
    PE X (.Call (.Name x p) (e :: es) [] pos) (tCall sp [] E0 t) := by
  obtain ⟨f, fd, F, hm, hk, hb⟩ := D.ex
  exact pe_call F hr hg hm hk hb .nil pass0 ha hdb he hpl
theorem pe_d0 (D : Df X.prog X.w X.K X.mg X.base x k ps sp) (hr : Room k X.A) (hg : Gl X x)
    (hdb : (x == ("__debug__" : Str)) = false := by decide) : PE X (.Call (.Name x p) [] [] pos) (tCall sp [] E0 tNil) := by
  obtain ⟨f, fd, F, hm, hk, hb⟩ := D.ex
  exact pe_call0 F hr hg hm hk hb .nil pass0 hdb
theorem pe_dg (D : Dg X.prog X.w X.K X.mg X.base x k ps sp) (hr : Room k X.A) (ng : Ng X.A) (hg : Gl X x) (ha : PA X (e :: es) t)
    (hdb : (x == ("__debug__" : Str)) = false := by decide)
    (he : starEach (e :: es) X.env = (false, eval e X.env) :: starEach es X.env := by rfl)
    (hpl : (backTo pos (starEach es X.env)).any (·.1) = false := by rfl) :
    PE X (.Call (.Name x p) (e :: es) [] pos) (tCall sp [] E0 t) := by
  obtain ⟨f, fd, F, hm, hk, hb⟩ := D.ex
  exact pe_g F hr ng hg hm hk hb .nil pass0 ha hdb he hpl
end
theorem hu64 {A : Around} {k : Nat} (hr : Room k A) : A.units + 64 < cLine := hr.units

/-- the built-in names that the text leaves as they are -/
structure Bls (mg : Str → Option Value) : Prop where
  n_int : mg "int" = none
  n_len : mg "len" = none
  n_abs : mg "abs" = none
  n_divmod : mg "divmod" = none
  n_range : mg "range" = none
  n_min : mg "min" = none
  n_max : mg "max" = none
  n_all : mg "all" = none
  n_repr : mg "repr" = none
  n_isinstance : mg "isinstance" = none

/-! ### the reel -/
/-- a reel stands at a -/
def RlAt (a : Addr) (H : Hp) : Prop := ∃ x y z : Int, H a = some (.lst [.int x, .int y, .int z])
/-- all but a stays -/
def But (a : Addr) (H H' : Hp) : Prop := ∀ b o, H b = some o → b ≠ a → H' b = some o
theorem but_trans {a : Addr} {H H1 H2 : Hp} (p : But a H H1) (q : But a H1 H2) : But a H H2 := fun b o e n => q b o (p b o e n) n
theorem but_refl (a : Addr) (H : Hp) : But a H H := fun _ _ e _ => e
theorem same_but {H H' : Hp} (a : Addr) (e : Same H H') : But a H H' := fun b o h _ => e b o h
theorem but_upd {a : Addr} {H : Hp} {o : HO} : But a H (upd H a o) := fun b o e n => by rw [upd_ne n]; exact e
theorem but_new {a p : Addr} {H : Hp} {o : HO} (h : H p = none) : But a H (upd H p o) := fun b u e n => by
  rw [upd_ne (ne_of_none e h)]; exact e
theorem same_new {p : Addr} {H : Hp} {o : HO} (h : H p = none) : Same H (upd H p o) := fun b u e => by
  rw [upd_ne (ne_of_none e h)]; exact e

/-- _law_pull: a number from 0 on and below the second argument; the reel has gone on -/
def spPull : Sp := fun vs H Q _ => ∃ (a : Addr) (m : Int), vs = [.ref a, .int m] ∧ RlAt a H ∧ 0 < m ∧ m < 1000000 ∧
  ∀ (d : Int) (H' : Hp), 0 ≤ d → d < m → RlAt a H' → But a H H' → Q (.int d) H'

theorem divp_small {i j : Int} (h0 : 0 < j) (h1 : j < 1000000) : CDivP i j := ⟨h0, PyProof.noPylong_small (by omega)⟩
end Vx
namespace PySem
namespace VxE
open PySem.W PySem.Calls PyProof.Rows PySem.HandSPX
section
variable {M : Model} {A : Around} {E : Value → Shared → Prop} {h : Heap} {g : Array GenState} {d : Drawn} {t : Nat} {os : OsState}
  {nm q : Str} {C N : Addr} {bs bm bmB : List Value} {hd : Bool} {sn : List Str} {sub : List Value} {ab : Bool} {col : Option Bool}
  {dd : Option Addr} {k0 k1 k2 k3 k5 : Option Value} {B ni ii : String} {n : Str} {v : Value}
theorem new_check (F : ExcBaseFacts B ni ii bmB) (hT : ∀ X : String, bm.contains (.type X) = bmB.contains (.type X)) {Q : Unit → Shared → Prop}
    (hC : h.get? C = some (excClassObj nm q C N bs bm hd sn sub ab col dd k0 k1 k2 k3 k5 ni)) (hq : Q () ⟨h, g, d, t, os⟩) :
    wpAny M A (checkBuiltinCall ni ⟨[.ref C], [(n, v)]⟩) Q E ⟨h, g, d, t, os⟩ := by
  have c1 : (Value.ref C :: bm).contains (.type B) = true := by
    rw [List.contains_cons, hT, F.hasB]
    exact Bool.or_true _
  have c2 := F.noStar
  simp only [checkBuiltinCall, F.newKind, F.newSplit, F.newRow]
  repeat (first | refine wpAny_loadPart_at hC ?_ | (refine wpAny_isSubtype_exc hC ?_; rw [c1]) | refine wpAny_staticBase_exc hC ?_ | refine wpAny_madeBy_exc hC ?_ | simp only [bne_self_eq_false, Bool.false_eq_true, if_false] | wp_step)
  exact hq
end
section
variable {prog : Program} {w : World} {A : Around} {E : Value → Shared → Prop} {R : Result → Shared → Prop} {h : Heap} {g : Array GenState} {d : Drawn} {t : Nat} {os : OsState}
  {nm q : Str} {C N : Addr} {bs bm bmB : List Value} {hd : Bool} {sn : List Str} {sub : List Value} {ab : Bool} {col : Option Bool}
  {dd : Option Addr} {k0 k1 k2 k3 k5 : Option Value} {B ni ii : String} {n : Str} {v : Value}
theorem new_kw (F : ExcBaseFacts B ni ii bmB) (hT : ∀ X : String, bm.contains (.type X) = bmB.contains (.type X))
    (hC : h.get? C = some (excClassObj nm q C N bs bm hd sn sub ab col dd k0 k1 k2 k3 k5 ni))
    (hq : R (.ok (.ret (.ref (h.objs.size + 1)))) ⟨(h.push (W.kdv_tup [])).push (excO C h.objs.size), g, d, t, os⟩) :
    codeAny (model prog w) A (.builtin ni ⟨[.ref C], [(n, v)]⟩) R ⟨h, g, d, t, os⟩ := by
  have hends := F.ends
  have c1 : (Value.ref C :: bm).contains (.type B) = true := by
    rw [List.contains_cons, hT, F.hasB]
    exact Bool.or_true _
  have c2 : (Value.ref C :: bm).contains (.type "AttributeError") = false := by
    rw [List.contains_cons, hT, F.noAttr]
    rfl
  have c3 : (Value.ref C :: bm).contains (.type "NameError") = false := by
    rw [List.contains_cons, hT, F.noName]
    rfl
  have hz : ([] : List Value).length ≤ sizeLine := Nat.zero_le _
  refine codeAny_builtinAt F.entry ?_
  unfold Builtin.«BaseException.__new__»
  refine wpAt_bind ?_
  show wpAt _ _ _ (stack >>= _) _ _ _
  refine wpAt_bind (wpAt_stack fun p below => wpAt_of_wpAny ?_)
  wp_walk
  refine wpAt_of_wpAny ?_
  rw [F.owner]
  repeat (first | with_reducible refine wpAny_madeHere_exc F.canon hC ?_ | with_reducible refine wpAny_loadPart_at hC ?_ | (with_reducible refine wpAny_isSubtype_exc hC ?_; first | rw [c1] | rw [c2] | rw [c3]) | wp_step)
  show R _ _
  rw [Heap.size_push]
  exact hq
theorem type_kw (F : ExcBaseFacts B ni ii bmB) (hT : ∀ X : String, bm.contains (.type X) = bmB.contains (.type X)) {fI : Addr} {Q : Fin → Shared → Prop}
    (hC : h.get? C = some (excClassObj nm q C N bs bm hd sn sub ab col dd k0 k1 k2 k3 k5 ni))
    (hi : W.Looks (model prog w) h (typeLookup (.ref C) "__init__") (some (.ref fI)))
    (hb : ∀ self, W.Looks (model prog w) h (bindSpecial (.ref fI) self) (.ref fI, [self]))
    (hq : codeAny (model prog w) A (.call (.ref fI) ⟨[.ref (h.objs.size + 1)], [(n, v)]⟩)
      (fun r s' => match r with
        | .ok (.ret v) => v = .none ∧ Q (.done (.ret (.ref (h.objs.size + 1)))) s'
        | .ok _ => False
        | .error e => E e s') ⟨(h.push (W.kdv_tup [])).push (excO C h.objs.size), g, d, t, os⟩) :
    wpAny (model prog w) A (Builtin.«type.__call__» ⟨[.ref C], [(n, v)]⟩) Q E ⟨h, g, d, t, os⟩ := by
  repeat (first | with_reducible refine wpAny_loadPart_at hC ?_ | with_reducible refine wpAny_madeBy_exc hC ?_ | wp_step)
  refine codeAny_call_builtin_code (Code.quiet_builtin _ F.quiet) (new_check F hT hC ?_)
  refine new_kw F hT hC ?_
  show wpAny _ _ _ _ _ _
  have k : ∀ b o, h.get? b = some o → ((h.push (W.kdv_tup [])).push (excO C h.objs.size)).get? b = some o :=
    fun b o e => Heap.get?_push_of_some _ (Heap.get?_push_of_some _ e)
  have hC1 := k _ _ hC
  have hg : ((h.push (W.kdv_tup [])).push (excO C h.objs.size)).get? (h.objs.size + 1) = some (excO C h.objs.size) := by heap_get
  have hcC : (Value.ref C :: bm).contains (.ref C) = true := by simp
  have i1 := hi.keeps k
  have b1 := (hb (.ref (h.objs.size + 1))).keeps k
  unfold isInstance
  repeat (first | with_reducible refine wpAny_loadPart_at hg ?_ | (with_reducible refine wpAny_isSubtype_exc hC1 ?_; rw [hcC]) | wp_step)
  show wpAny _ _ (typeLookup (.ref C) _) _ _ _
  refine i1.at ?_
  refine wpAny_holding (wpAny_bind (b1.at ?_))
  refine wpAny_bind (wpAny_call (codeAny_mono hq fun r s' z => ?_))
  rcases r with e | (v | _ | _ | _) <;> first | exact z | exact z.elim | skip
  obtain ⟨rfl, z⟩ := z
  first
    | exact wpAny_pure (wpAny_pure z)
    | (wp_walk; exact z)
theorem call_kw (F : ExcBaseFacts B ni ii bmB) (hT : ∀ X : String, bm.contains (.type X) = bmB.contains (.type X)) {fI : Addr}
    (hC : h.get? C = some (excClassObj nm q C N bs bm hd sn sub ab col dd k0 k1 k2 k3 k5 ni))
    (hi : W.Looks (model prog w) h (typeLookup (.ref C) "__init__") (some (.ref fI)))
    (hb : ∀ self, W.Looks (model prog w) h (bindSpecial (.ref fI) self) (.ref fI, [self]))
    (hq : codeAny (model prog w) (A.under (.builtin "type.__call__" ⟨[.ref C], [(n, v)]⟩)) (.call (.ref fI) ⟨[.ref (h.objs.size + 1)], [(n, v)]⟩)
      (W.InitBack (h.objs.size + 1) R) ⟨(h.push (W.kdv_tup [])).push (excO C h.objs.size), g, d, t, os⟩) :
    codeAny (model prog w) A (.call (.ref C) ⟨[], [(n, v)]⟩) R ⟨h, g, d, t, os⟩ := by
  have f1 := tc_lookup
  have f2 := tc_bind (.ref C)
  have ty : (⟨h, g, d, t, os⟩ : Shared).TypeIs (.ref C) "type" := ⟨_, hC, rfl⟩
  refine codeAny_of_tree ?_
  show wpAny _ _ (callAny (.ref C) _) _ _ _
  repeat (any_goals (first | assumption | with_reducible refine wpAny_loadPart_at hC ?_ | wp_step))
  refine ⟨rfl, ?_⟩
  refine codeAny_call_builtin_at (Code.quiet_builtin _ (by decide +kernel)) entry_typeCall (wpAny_check_type_call_sub hC (type_kw F hT hC hi hb ?_))
  refine codeAny_mono hq fun r s' z => ?_
  rcases r with e | (v | _ | _ | _) <;> exact z
end
end VxE
end PySem
namespace PySem
namespace VxE
open PySem.W PySem.Calls PyProof.Rows PySem.Spec
section
variable {prog : Program} {w : World} {A : Around} {E : Value → Shared → Prop} {s : Shared} {K : Frag} {x D : Addr} {ox : Obj} {od : Option Obj}
theorem find_class {C : Addr} {name : Str} {a g : Value} (hc : (clsIn K C).isSome = true) (ha : findIn K (.ref C) name = some (some a))
    (hg : specialIn K a "__get__" = some (some g)) (ht : takesIn K a = some true) : findObj K C od name = some (.bind g a) := by
  obtain ⟨cd, hc⟩ := Option.isSome_iff_exists.mp hc
  unfold findObj
  rw [hc, Option.bind_some, ha, Option.bind_some]
  simp [hg, ht]
theorem get_cls {Q : Option Value → Shared → Prop} (h1 : findIn K (.ref D) "__getattribute__" = some (some (.builtin "BaseException.__getattribute__")))
    (h2 : findIn K (.ref D) "__getattr__" = some none) (h3 : subIn K (.ref D) (.type "BaseException") = some true) (h4 : hasDictIn K D = true)
    (h5 : findIn K (.ref D) "__class__" = some (some (.builtin "object.__class__")))
    (h6 : specialIn K (.builtin "object.__class__") "__get__" = some (some (.builtin "getset_descriptor.__get__")))
    (h7 : takesIn K (.builtin "object.__class__") = some true) (h8 : mroIn K D (.type "object") = some true) (X : K.In s.heap)
    (I : W.InstAt s.heap x ox D od) (h : Q (some (.ref D)) { s with toks := s.toks + 1 }) :
    wpAny (model prog w) A (getAttr? (.ref x) "__class__") Q E s := by
  have hf : findObj K D od "__class__" = some (.bind (.builtin "getset_descriptor.__get__") (.builtin "object.__class__")) :=
    find_class (by obtain ⟨cd, hc, _⟩ := any_some h4; rw [hc]; rfl) h5 h6 h7
  obtain ⟨hp, g, d, t, os⟩ := s
  have L0 := I.type (M := model prog w)
  have L1 := looks_findIn (M := model prog w) X h1
  have L2 := looks_findIn (M := model prog w) X h2
  have L3 := looks_find (M := model prog w) X I hf
  have sub : Looks (model prog w) hp (isInstance (.ref x) (.type "BaseException")) true := L0.andThen (looks_subIn X h3)
  have e0 : (false && onTheHeap (Value.builtin "BaseException.__getattribute__")) = false := rfl
  have e2 : (Value.builtin "BaseException.__getattribute__" == Value.builtin "object.__getattribute__") = false := by decide +kernel
  have e1 : (onTheHeap (Value.ref D) && Value.builtin "BaseException.__getattribute__" == Value.builtin "object.__getattribute__") = false := by
    rw [e2]
    rfl
  unfold getAttr? getAttrBy? getAttrBy
  refine wpAny_bind (wpAny_mkText (wpAny_bind (wpAny_attempt (wpAny_holding (wpAny_bind (L0.at (wpAny_bind (L1.at ?_))))))))
  show wpAny _ _ (if (onTheHeap (Value.ref D) && Value.builtin "BaseException.__getattribute__" == Value.builtin "object.__getattribute__") = true then _ else _) _ _ _
  rw [e1, if_neg Bool.false_ne_true]
  unfold getAttrByItsOwn hookBefore
  refine wpAny_bind ?_
  rw [if_pos (show onTheHeap (Value.ref D) = true from rfl)]
  refine L2.at (wpAny_bind (wpAny_attempt (wpAny_holding ?_)))
  unfold callGetattribute
  rw [e0, if_neg Bool.false_ne_true]
  unfold boundAndCalled
  rw [PySem.F.excAttr_ValueError.ga.bind (.ref x)]
  refine wpAny_bind (wpAny_pure ?_)
  refine wpAny_call (codeAny_call_builtin PySem.F.excAttr_ValueError.ga.plain PySem.F.entry_bexc_ga ?_)
  refine @check_slot (model prog w) _ _ ⟨hp, g, d, t + 1, os⟩ "BaseException.__getattribute__" "BaseException" "__getattribute__" (.ref x)
    [.str "__class__" t] [] _ (by decide +kernel) (by decide +kernel) sub (PySem.F.args_bexc_ga (.ref x) (.str "__class__" t)) ?_
  unfold Builtin.«object.__getattribute__»
  refine wpAny_bind (wpAny_of_eq (a := ((Value.ref x : Value), [Value.str "__class__" t])) (by first | rfl | (simp only [slotArgs]; rfl)) ?_)
  refine wpAny_bind (wpAny_pure (wpAny_bind (L0.at (wpAny_bind (L3.at ?_)))))
  refine wpAny_bind (wpAny_holding (wpAny_call (class_get (s := ⟨hp, g, d, t + 1, os⟩) (ox := ox) (od := od) X I h8 (wpAny_pure ?_))))
  show wpAny _ _ (handedOut (.ref D)) _ _ _
  rw [handedOut_of (v := .ref D) rfl]
  first
    | exact wpAny_pure (wpAny_pure h)
    | exact wpAny_pure h
    | exact wpAny_pure (wpAny_bind (wpAny_pure (wpAny_pure h)))

theorem kit_exc (h1 : findIn K (.ref D) "__getattribute__" = some (some (.builtin "BaseException.__getattribute__")))
    (h2 : findIn K (.ref D) "__getattr__" = some none) (h3 : subIn K (.ref D) (.type "BaseException") = some true) (h4 : hasDictIn K D = true)
    (h5 : findIn K (.ref D) "__class__" = some (some (.builtin "object.__class__")))
    (h6 : specialIn K (.builtin "object.__class__") "__get__" = some (some (.builtin "getset_descriptor.__get__")))
    (h7 : takesIn K (.builtin "object.__class__") = some true) (h8 : mroIn K D (.type "object") = some true) :
    KitX K (.ref x) (.ref D) (fun h => W.InstAt h x ox D od) := by
  obtain ⟨cd, hc, _⟩ := any_some h4
  unfold clsIn at hc
  split at hc
  · rename_i c1 d1 cd1 sl1 ho
    refine ⟨fun _ _ _ I => I.type, fun _ _ X _ A' Q' E' s' k q => ?_, fun h tp dd its n sl X htp => Bool.eq_false_iff.mpr fun q => ?_, fun X I k => get_cls h1 h2 h3 h4 h5 h6 h7 h8 X I k⟩
    · unfold isType loadHead
      exact wpAny_bind (wpAny_loadPart (k _ _ (X _ _ ho)) (wpAny_pure q))
    · have e : D = tp := Value.ref.inj (beq_iff_eq.mp q)
      subst e
      have z := (X _ _ ho).symm.trans htp
      cases z
  · cases hc
end
end VxE
end PySem

namespace Vx
open PySem PySem.Spec PyProof.Rows L2

/-- a class of the text over ValueError, HE its base of the text (none: ValueError itself) -/
structure Xc (K : PySem.W.Frag) (C : Addr) (up : List Value) : Prop where
  cls : ∃ nm q N bs sn sub ab col dd k0 k1 k2 k3 k5, K.lookup C = some (excClassObj nm q C N bs up true sn sub ab col dd k0 k1 k2 k3 k5 "ValueError.__new__")
  sa : PySem.W.findIn K (.ref C) "__setattr__" = some (some (.builtin "object.__setattr__"))
  ga : PySem.W.findIn K (.ref C) "__getattribute__" = some (some (.builtin "BaseException.__getattribute__"))
  gg : PySem.W.findIn K (.ref C) "__getattr__" = some none
  ca : PySem.W.findIn K (.ref C) "__class__" = some (some (.builtin "object.__class__"))
  kC : PySem.W.keepIn K (.ref C) = true
/-- the way up from ValueError -/
def veUp : List Value := [.type "ValueError", .type "Exception", .type "BaseException", .type "object"]
section
variable {K : PySem.W.Frag} {C : Addr} {up : List Value}
theorem Xc.clsIn (T : Xc K C up) : ∃ nm q N bs sn sub ab col, PySem.W.clsIn K C = some { name := nm, bases := bs, mro := .ref C :: up, ns := N, qualname := q, hasDict := true, slotNames := sn, subclasses := sub, abstract := ab, collection := col, hasDel := false } := by
  obtain ⟨nm, q, N, bs, sn, sub, ab, col, dd, k0, k1, k2, k3, k5, hC⟩ := T.cls
  refine ⟨nm, q, N, bs, sn, sub, ab, col, ?_⟩
  unfold PySem.W.clsIn
  rw [hC]
theorem Xc.mro (T : Xc K C up) (b : Value) : PySem.W.mroIn K C b = some ((Value.ref C :: up).contains b) := by
  obtain ⟨nm, q, N, bs, sn, sub, ab, col, h⟩ := T.clsIn
  unfold PySem.W.mroIn
  rw [h]
  rfl
theorem Xc.sub (T : Xc K C up) (b : Value) : PySem.W.subIn K (.ref C) b = some ((Value.ref C :: up).contains b) := T.mro b
theorem Xc.ty (T : Xc K C up) : PySem.W.typeIn K (.ref C) = some (.type "type") := by
  obtain ⟨nm, q, N, bs, sn, sub, ab, col, dd, k0, k1, k2, k3, k5, hC⟩ := T.cls
  show (K.lookup C).map (·.cls) = _
  rw [hC]
  rfl
theorem Xc.hd (T : Xc K C up) : PySem.W.hasDictIn K C = true := by
  obtain ⟨nm, q, N, bs, sn, sub, ab, col, h⟩ := T.clsIn
  unfold PySem.W.hasDictIn
  rw [h]
  rfl
theorem Xc.is (T : Xc K C up) : (PySem.W.clsIn K C).isSome = true := by
  obtain ⟨nm, q, N, bs, sn, sub, ab, col, h⟩ := T.clsIn
  rw [h]
  rfl
theorem Xc.exC (T : Xc K C up) (h : up.contains (.type "BaseException") = true) : PySem.W.subIn K (.ref C) (.type "BaseException") = some true := by
  rw [T.sub, List.contains_cons, h, Bool.or_true]
theorem Xc.oex (T : Xc K C up) (h : PySem.HandSPX.refsVE up = true) (hb : up.contains (.type "BaseException") = true) : OexC K C := by
  obtain ⟨nm, q, N, bs, sn, sub, ab, col, dd, k0, k1, k2, k3, k5, hC⟩ := T.cls
  exact ⟨⟨nm, q, N, bs, up, sn, sub, ab, col, dd, k0, k1, k2, k3, k5, hC, h⟩, T.sa, T.exC hb, T.ty, T.kC⟩
/-- isinstance by the classes' ways up -/
theorem Xc.kit (T : Xc K C up) {D : Addr} {up' : List Value} (T' : Xc K D up') : PySem.W.kitOne K (.ref C) (.ref D) = some ((Value.ref C :: up).contains (.ref D)) := by
  unfold PySem.W.kitOne
  by_cases h : (Value.ref C == Value.ref D) = true
  · rw [if_pos h, List.contains_cons]
    have e : C = D := Value.ref.inj (beq_iff_eq.mp h)
    subst e
    simp
  · rw [if_neg h]
    show (if ((PySem.W.clsIn K D).isSome && PySem.W.typeIn K (.ref D) == some (.type "type")) = true then PySem.W.subIn K (.ref C) (.ref D) else none) = _
    rw [T'.is, T'.ty, T.sub]
    rfl
theorem Xc.kitT (T : Xc K C up) {n : String} (h : PySem.W.kitMeta n = true) : PySem.W.kitOne K (.ref C) (.type n) = some (up.contains (.type n)) := by
  unfold PySem.W.kitOne
  rw [if_neg (show ¬ (Value.ref C == Value.type n) = true from fun z => by cases beq_iff_eq.mp z)]
  show (if PySem.W.kitMeta n = true then PySem.W.subIn K (.ref C) (.type n) else none) = _
  rw [if_pos h, T.sub, List.contains_cons]
  rfl
end

/-- an exception of the class at C that keeps v under f -/
def ExA (H : Hp) (e C : Addr) (f : Str) (v : V) : Prop := ∃ d, H e = some (exo e C (some d)) ∧ H d = some (exd d [(f, v)])
/-- an exception of the class at C that keeps nothing -/
def Ex0 (H : Hp) (e C : Addr) : Prop := H e = some (exo e C none)
/-- an exception of the class at C -/
def IsEx (H : Hp) (e C : Addr) : Prop := Ex0 H e C ∨ ∃ d fs, H e = some (exo e C (some d)) ∧ H d = some (exd d fs)
theorem ExA.is {H : Hp} {e C : Addr} {f : Str} {v : V} (h : ExA H e C f v) : IsEx H e C := let ⟨d, h, k⟩ := h; Or.inr ⟨d, _, h, k⟩
theorem Ex0.is {H : Hp} {e C : Addr} (h : Ex0 H e C) : IsEx H e C := Or.inl h
theorem ExA.mono {H H' : Hp} {e C : Addr} {f : Str} {v : V} (s : Same H H') (h : ExA H e C f v) : ExA H' e C f v := let ⟨d, a, b⟩ := h; ⟨d, s _ _ a, s _ _ b⟩
theorem IsEx.mono {H H' : Hp} {e C : Addr} (s : Same H H') (h : IsEx H e C) : IsEx H' e C := by
  rcases h with h | ⟨d, fs, a, b⟩
  · exact Or.inl (s _ _ h)
  · exact Or.inr ⟨d, fs, s _ _ a, s _ _ b⟩

/-- what the built-in __class__ is to the written part -/
structure ClsG (K : PySem.W.Frag) : Prop where
  hn : PySem.W.specialIn K (.builtin "object.__class__") "__get__" = some (some (.builtin "getset_descriptor.__get__"))
  ht : PySem.W.takesIn K (.builtin "object.__class__") = some true

section
variable {X : Cx} {pins : List (Addr × Obj)} {σ : L2.St} {H : Hp} {s : Shared}
theorem Inv.exo_inst {a C : Addr} (I : Inv X pins σ H s) (h : IsEx H a C) : ∃ ox od, PySem.W.InstAt s.heap a ox C od := by
  rcases h with h | ⟨d, fs, h, hd⟩
  · obtain ⟨t1, ho⟩ := exo_at I.hok h
    exact ⟨_, none, ho, rfl, rfl, trivial⟩
  · obtain ⟨t1, ho⟩ := exo_at I.hok h
    obtain ⟨mA, ⟨o, es, ep, hdo, _⟩, _⟩ := exd_at I.hok hd
    exact ⟨_, some o, ho, rfl, rfl, hdo⟩
/-- isinstance(e, c) -/
def rIsX (K : PySem.W.Frag) : List V → Hp → VK → Prop := fun xs H Q => ∃ (a C : Addr) (up : List Value) (c : V) (cv : Value) (b : Bool), xs = [.ref a, c] ∧ IsEx H a C ∧
  Xc K C up ∧ up.contains (.type "BaseException") = true ∧ up.contains (.type "object") = true ∧ (∀ u, RelV c u → u = cv) ∧ PySem.W.kitOne K (.ref C) cv = some b ∧ Q (.bl b) H
theorem call_isX (G : ClsG X.K) : CallR X (.builtin "isinstance") (rIsX X.K) := by
  intro pins s σ H xs us Q I r h
  obtain ⟨a, C, up, c, cv, b, rfl, hx, T, hb, ho, hcv, e, q⟩ := h
  obtain ⟨u, u2, rfl, r1, r2⟩ := vals2 r
  cases r1
  have ec := hcv _ r2
  subst ec
  obtain ⟨ox, od, J⟩ := Inv.exo_inst I hx
  have hm : PySem.W.mroIn X.K C (.type "object") = some true := by rw [T.mro, List.contains_cons, ho, Bool.or_true]
  exact PySem.W.kia_one (PySem.VxE.kit_exc T.ga T.gg (T.exC hb) T.hd T.ca G.hn G.ht hm) I.kIn J e (fun z => nomatch z)
    fun tk => ⟨.bl b, H, I.kept (t' := tk) fun _ _ z => z, rfl, q⟩
/-- isinstance(e, (T, ..)), built-in classes -/
def rIsXT (K : PySem.W.Frag) : List V → Hp → VK → Prop := fun xs H Q => ∃ (a C t : Addr) (up : List Value) (ns : List String) (b : Bool), xs = [.ref a, .ref t] ∧ IsEx H a C ∧
  Xc K C up ∧ up.contains (.type "BaseException") = true ∧ up.contains (.type "object") = true ∧ H t = some (.tup (ns.map V.ty)) ∧ PySem.W.kitAny K (.ref C) (ns.map Value.type) = some b ∧ Q (.bl b) H
theorem vals_ty : ∀ {ns : List String} {us : List Value}, Vals (ns.map V.ty) us → us = ns.map Value.type
  | [], _, .nil => rfl
  | n :: ns, _, .cons r t => by
    have e : _ = Value.type n := r
    rw [List.map_cons, e, vals_ty t]
theorem call_isXT (G : ClsG X.K) : CallR X (.builtin "isinstance") (rIsXT X.K) := by
  intro pins s σ H xs us Q I r h
  obtain ⟨a, C, t, up, ns, b, rfl, hx, T, hb, ho, ht, e, q⟩ := h
  obtain ⟨u, u2, rfl, r1, r2⟩ := vals2 r
  cases r1
  cases r2
  obtain ⟨its, rv, ⟨o, h1, h2, n, h3⟩, _⟩ := I.tuple (SqT.of ht)
  have ei := vals_ty rv
  subst ei
  obtain ⟨oc, odd, od', osl⟩ := o
  dsimp only at h2 h3
  subst h2 h3
  obtain ⟨ox, od, J⟩ := Inv.exo_inst I hx
  have hm : PySem.W.mroIn X.K C (.type "object") = some true := by rw [T.mro, List.contains_cons, ho, Bool.or_true]
  exact PySem.W.kia_tup (PySem.VxE.kit_exc T.ga T.gg (T.exC hb) T.hd T.ca G.hn G.ht hm) I.kIn J h1 e (fun z => nomatch z)
    fun tk => ⟨.bl b, H, I.kept (t' := tk) fun _ _ z => z, rfl, q⟩

/-- e.f of an exception -/
def tXa (K : PySem.W.Frag) (f : Str) (te : TE) : TE := fun σ H Q => te σ H fun x H1 => ∃ (a C : Addr) (up : List Value) (v : V), x = .ref a ∧ Xc K C up ∧ up.contains (.type "BaseException") = true ∧
  PySem.W.findIn K (.ref C) f = some none ∧ ExA H1 a C f v ∧ Q v H1
theorem pe_xa {e : Expr} {te : TE} {pos : Pos} {f : Str} (he : PE X e te) (hb : attributeBase e f X.env (eval e X.env) = eval e X.env := by rfl) : PE X (.Attribute e f pos) (tXa X.K f te) := by
  refine ⟨fun pins s σ H Q I h => ?_⟩
  refine attr_of hb (thn (he.run pins s σ H _ I h) ?_)
  rintro u s1 ⟨x, H1, I1, rx, a, C, up, v, ex, T, hbe, hno, ⟨d, ha, hd⟩, q⟩
  subst ex
  obtain rfl : u = Value.ref a := rx
  obtain ⟨t1, ho⟩ := exo_at I1.hok ha
  obtain ⟨mA, hns, hr⟩ := exd_at I1.hok hd
  obtain ⟨od, hod, hl⟩ := lookIn_ns hns
  obtain ⟨u, hu, ru⟩ := RelO.some_of (v := v) (o := mA f) (by have := hr f; rw [lookup_put, if_pos rfl] at this; exact this)
  have J : PySem.W.InstAt s1.heap a _ C (some od) := ⟨ho, rfl, rfl, hod⟩
  exact HandSPX.exc_get I1.kIn J T.ga T.gg (T.exC hbe) (PySem.W.findObj_own T.hd hno rfl (by rw [hl, hu])) (handed_of ru) ⟨v, H1, I1.tok _, ru, q⟩
end

/-- __init__ of such a class: the new exception, and its dict with the one attribute -/
def spIni (K : PySem.W.Frag) (C : Addr) (f : Str) : Sp := fun vs H Q _ => ∃ (a : Addr) (v : V), vs = [.ref a, v] ∧ H a = some (exo a C none) ∧
  ∀ d, H d = none → d ≠ a → Q .non (upd (upd H d (exd d [(f, v)])) a (exo a C (some d)))
structure Ini (K : PySem.W.Frag) (C : Addr) (f : Str) : Prop where
  ex : ∃ fI fd, PySem.W.findIn K (.ref C) "__init__" = some (some (.ref fI)) ∧ PySem.W.typeIn K (.ref fI) = some (.type "function") ∧
    (∀ P w mg base, FnOk P w K mg base CX0 1 fI fd ["self", f] (spIni K C f)) ∧ Binds K fd ["self", f] [] ∧
    ∀ s e v, BindsTo s fd ⟨[e], [(f, v)]⟩ [("self", e), (f, v)]
  no : PySem.W.findIn K (.ref C) f = some none
theorem ini_ok {P : Program} {w : World} {K : PySem.W.Frag} {mg : Str → Option Value} {base : Heap} {C fI : Addr} {fd : FuncData} {f qn : Str} {st : Stmt} {p1 p2 p3 p4 : Pos}
    (T : OexC K C) (no : PySem.W.findIn K (.ref C) f = some none) (F : Fun K "__init__" qn st fI fd) (S : FnScope ["self", f] ["self", f] (defScope st))
    (hb : defBody st = [.Assign [.Attribute (.Name "self" p1) f p2] (.Name f p3) p4]) (hd : (f == ("__debug__" : Str)) = false) (hc : (f == ("__classdict__" : Str)) = false) :
    FnOk P w K mg base CX0 1 fI fd ["self", f] (spIni K C f) := by
  have vis : ∀ x ∈ (["self", f] : List Str), Vis (defScope st) x := fun x hx => (S.par x hx).elim Or.inl fun z => Or.inr (Or.inl z)
  refine F.ok S (fun vs H Q E h => ?_) (fun cdv A outer s H vs Q E hr h => ?_)
  · obtain ⟨a, v, rfl, _⟩ := h
    rfl
  · obtain ⟨a, v, rfl, ha, q⟩ := h
    rw [hb]
    refine ⟨_, pss_one (ps_ost (pe_var (i := 0) rfl (vis _ (List.Mem.head _))) (pe_var (i := 1) rfl (vis _ (List.Mem.tail _ (List.Mem.head _))) hd hc)), ?_⟩
    refine ⟨_, rfl, _, rfl, a, C, rfl, T, no, Or.inl ⟨ha, fun d hd hn => ?_⟩⟩
    exact q d hd hn

section
variable {X : Cx} {pins : List (Addr × Obj)} {σ : L2.St} {H : Hp} {Q : VK} {C : Addr} {f x : Str} {p pos : Pos} {e : Expr} {te : TE}
/-- C(v), C(f=v): kw tells which -/
theorem run_exc {s : Shared} {v : V} {u : Value} (T : OexC X.K C) (N : Ini X.K C f) (hr : Room 2 X.A) (I : Inv X pins σ H s) (r : RelV v u) (kw : Bool)
    (q : ∀ a H2, Same H H2 → ExA H2 a C f v → Q (.ref a) H2) :
    wpAny (model X.prog X.w) X.A (if kw then call (.ref C) [] [(f, u)] else call (.ref C) [u]) (EP X pins σ Q) X.xe s := by
  obtain ⟨nm, qn, N0, bs, bm, sn, sub, ab, col, dd, k0, k1, k2, k3, k5, hC, hbm⟩ := T.cls
  obtain ⟨fI, fd, iC, tI, F, bP, bK⟩ := N.ex
  obtain ⟨hp, g, dr, tk, os⟩ := s
  have hn : H (hp.objs.size + 1) = none := I.hok.fresh (Nat.le_succ _)
  have hq : spIni X.K C f [.ref (hp.objs.size + 1), v] (upd H (hp.objs.size + 1) (exo (hp.objs.size + 1) C none)) (fun z H2 => z = .non ∧ Q (.ref (hp.objs.size + 1)) H2) E0 := by
    refine ⟨_, v, rfl, upd_same, fun d hd hne => ⟨rfl, ?_⟩⟩
    rw [upd_ne hne] at hd
    refine q _ _ (fun b o z => ?_) ⟨d, upd_same, by rw [upd_ne hne, upd_same]⟩
    rw [upd_ne (ne_of_none z hn), upd_ne (ne_of_none z hd), upd_ne (ne_of_none z hn)]
    exact z
  have mk : ∀ ws : List Value, ∃ h' : Heap, h' = (hp.push (PySem.W.kdv_tup ws)).push (PySem.HandSPX.excO C hp.objs.size) ∧
      Inv X pins σ (upd H (hp.objs.size + 1) (exo (hp.objs.size + 1) C none)) ⟨h', g, dr, tk, os⟩ := fun ws => by
    have kk : ∀ b o, hp.get? b = some o → ((hp.push (PySem.W.kdv_tup ws)).push (PySem.HandSPX.excO C hp.objs.size)).get? b = some o :=
      fun b o z => Heap.get?_push_of_some _ (Heap.get?_push_of_some _ z)
    have hg : ((hp.push (PySem.W.kdv_tup ws)).push (PySem.HandSPX.excO C hp.objs.size)).get? (hp.objs.size + 1) = some (PySem.HandSPX.excO C hp.objs.size) := by heap_get
    exact ⟨_, rfl, I.laid (t' := tk) (a := hp.objs.size + 1) (o := exo (hp.objs.size + 1) C none) kk (Nat.le_succ _) (exo_ok hg)⟩
  have r2 : Vals [V.ref (hp.objs.size + 1), v] [Value.ref (hp.objs.size + 1), u] := .cons rfl (.cons r .nil)
  have fin : ∀ {h' : Heap} {r : Result} {s' : Shared}, Inv X pins σ (upd H (hp.objs.size + 1) (exo (hp.objs.size + 1) C none)) ⟨h', g, dr, tk, os⟩ →
      CR CX0 X.stack X.prog X.w (upd H (hp.objs.size + 1) (exo (hp.objs.size + 1) C none)) ⟨h', g, dr, tk, os⟩ (fun z H2 => z = .non ∧ Q (.ref (hp.objs.size + 1)) H2) E0 r s' →
      match r with
      | .ok (.ret z) => z = .none ∧ EP X pins σ Q (.ref (hp.objs.size + 1)) s'
      | .ok _ => False
      | .error er => X.xe er s' := fun {h' r s'} I2 hc => by
    cases r with
    | error er => exact hc.elim
    | ok fl =>
      cases fl with
      | ret z =>
        obtain ⟨z', H2, I3, rz, ez, q3⟩ := I2.after hc
        subst ez
        exact ⟨rz, V.ref (hp.objs.size + 1), H2, I3, rfl, q3⟩
      | next => exact hc.elim
      | brk => exact hc.elim
      | cont => exact hc.elim
  cases kw with
  | false =>
    obtain ⟨h', eh, I2⟩ := mk [u]
    show wpAny _ _ (call (.ref C) [u]) _ _ _
    refine wpAny_call (PySem.HandSPX.call_own PySem.F.excBase_ValueError (fun Y => PySem.HandSPX.refsVE_contains Y bm hbm) (I.kIn _ _ hC) (PySem.W.looks_findIn I.kIn iC)
      (fun self => PySem.W.bind_fn I.kIn self tI) (by show 1 ≤ sizeLine; rw [sizeLine_eq]; decide) ?_)
    rw [← eh]
    refine codeAny_mono ((F X.prog X.w X.mg X.base).run _ X.stack _ _ ⟨[.ref (hp.objs.size + 1), u], []⟩ [.ref (hp.objs.size + 1), u] _ _ E0 (hr.make C [u] [])
      (I2.env0.make C [u] []) (bP _ [.ref (hp.objs.size + 1), u] I2.kIn rfl) r2 hq) fun r s' hc => ?_
    have z := fin I2 hc
    cases r with
    | error er => exact z
    | ok fl => cases fl <;> exact z
  | true =>
    obtain ⟨h', eh, I2⟩ := mk []
    show wpAny _ _ (call (.ref C) [] [(f, u)]) _ _ _
    refine wpAny_call (PySem.VxE.call_kw PySem.F.excBase_ValueError (fun Y => PySem.HandSPX.refsVE_contains Y bm hbm) (I.kIn _ _ hC) (PySem.W.looks_findIn I.kIn iC)
      (fun self => PySem.W.bind_fn I.kIn self tI) ?_)
    rw [← eh]
    refine codeAny_mono ((F X.prog X.w X.mg X.base).run _ X.stack _ _ ⟨[.ref (hp.objs.size + 1)], [(f, u)]⟩ [.ref (hp.objs.size + 1), u] _ _ E0 (hr.make C [] [(f, u)])
      (I2.env0.make C [] [(f, u)]) (bK _ _ _) r2 hq) fun r s' hc => ?_
    have z := fin I2 hc
    cases r with
    | error er => exact z
    | ok fl => cases fl <;> exact z
/-- C(e) -/
def tXn (C : Addr) (f : Str) (t : TA) : TE := fun σ H Q => t σ H fun vs H1 => ∃ v, vs = [v] ∧ ∀ a H2, Same H1 H2 → ExA H2 a C f v → Q (.ref a) H2
theorem pe_xn {es : List Expr} {t : TA} (T : OexC X.K C) (N : Ini X.K C f) (hr : Room 2 X.A) (hg : Gl X x) (hm : X.mg x = some (.ref C)) (ha : PA X (e :: es) t)
    (hdb : (x == ("__debug__" : Str)) = false := by decide) (hs : starEach (e :: es) X.env = (false, eval e X.env) :: starEach es X.env := by rfl)
    (hpl : (backTo pos (starEach es X.env)).any (·.1) = false := by rfl) : PE X (.Call (.Name x p) (e :: es) [] pos) (tXn C f t) := by
  refine ⟨fun pins s σ H Q I h => ?_⟩
  refine wpAny_Call_Name_kw (ld_glob I hg hm ?_ hdb)
  refine PySem.W.callWith_K (h₀ := X.base) I.ok.mod.kin T.kC (thn (ha.run pos pins s σ H _ I h) ?_) hs hpl
  rintro us s1 ⟨vs, H1, I1, r, v, rfl, q⟩
  obtain ⟨u, rfl, ru⟩ := vals1 r
  exact ⟨I1.kIn, run_exc T N hr I1 ru false q⟩
/-- C(f=e) -/
theorem pe_xk {kws : List Keyword} {t : TA} (T : OexC X.K C) (N : Ini X.K C f) (hr : Room 2 X.A) (hg : Gl X x) (hm : X.mg x = some (.ref C)) (hkw : PK X kws t)
    (hall : (backToKw pos (keywordEach kws X.env)).all (·.1.isSome) = true := by rfl) (hks : (backToKw pos (keywordEach kws X.env)).filterMap (·.1) = [f] := by rfl)
    (hdb : (x == ("__debug__" : Str)) = false := by decide)
    (hpl : ((backTo pos (starEach [] X.env)).any (·.1) || (backToKw pos (keywordEach kws X.env)).any (·.1.isNone)) = false := by rfl) :
    PE X (.Call (.Name x p) [] kws pos) (tXn C f t) := by
  refine ⟨fun pins s σ H Q I h => ?_⟩
  refine wpAny_Call_Name_kw (ld_glob I hg hm ?_ hdb)
  refine PySem.W.callWith_KW0 (h₀ := X.base) I.ok.mod.kin T.kC hall (thn (hkw.run pos pins s σ H _ I h) ?_) hpl
  rintro us s1 ⟨vs, H1, I1, r, v, rfl, q⟩
  obtain ⟨u, rfl, ru⟩ := vals1 r
  refine ⟨I1.kIn, ?_⟩
  rw [hks]
  exact run_exc T N hr I1 ru true q
/-- C() of a class without an own __init__ -/
def tX0 (C : Addr) : TE := fun _ H Q => ∀ a H2, Same H H2 → Ex0 H2 a C → Q (.ref a) H2
theorem pe_x0 {bmB : List Value} {B ni ii : String} (F : ExcBaseFacts B ni ii bmB) (q0 : PySem.W.excIn X.K C bmB ni = true) (kC : PySem.W.keepIn X.K (.ref C) = true) (hg : Gl X x) (hm : X.mg x = some (.ref C))
    (hdb : (x == ("__debug__" : Str)) = false := by decide) : PE X (.Call (.Name x p) [] [] pos) (tX0 C) := by
  refine ⟨fun pins s σ H Q I h => ?_⟩
  refine wpAny_Call_Name_kw (ld_glob I hg hm ?_ hdb)
  refine PySem.W.callWith_K0 I.kIn kC ?_
  obtain ⟨bm, N, nm, qn, bs, hdct, sn, sub, ab, col, dd, k0, k1, k2, k3, k5, mN, hC, hN, hni, T⟩ := exc_obj I.kIn q0
  obtain ⟨hp, g, dr, tk, os⟩ := s
  refine wpAny_call_exc_subT F T hC hN hni (fun h' a hm => ?_) (Nat.zero_le _)
  have hn : H a = none := I.hok.gone hm.new
  obtain ⟨t, ht, _, _⟩ := hm.there
  exact ⟨.ref a, upd H a (exo a C none), I.laidN hm.keeps hm.new hn (exo_ok ht), rfl, h a _ (same_new hn) upd_same⟩
end
end Vx
namespace Vx
open PySem PySem.Spec PyProof.Rows L2

mutual
/-- a bound on the signs of d's repr -/
def cost : PyData → Nat
  | .none => 4
  | .bool _ => 5
  | .int _ => 1922
  | .str x => (reprText x).length
  | .list xs => costs xs + 2
  | .tuple xs => costs xs + 3
  | .dict kvs => costKv kvs + 2
def costs : List PyData → Nat
  | [] => 0
  | x :: xs => cost x + 2 + costs xs
def costKv : List (PyData × PyData) → Nat
  | [] => 0
  | (k, v) :: r => cost k + cost v + 4 + costKv r
end

theorem listText_le (ts : List Str) : (listText ts).length ≤ piled ts + 2 := by
  unfold listText
  rw [strLen_append]
  have e1 : (("]" : String) : Str).length = 1 := rfl
  cases ts with
  | nil =>
    show (("[" : String) : Str).length + _ ≤ _
    decide
  | cons t r =>
    have h : (textFrom 0 "[" (t :: r)) = textFrom 1 ((("[" : String) : Str) ++ ((if 0 > 0 then ", " else "" : String) : Str) ++ t) r := rfl
    rw [h, textFrom_length_pos r 1 _ (by decide), strLen_append, strLen_append, piled_cons, e1]
    have e2 : (("[" : String) : Str).length = 1 := rfl
    have e3 : (((if 0 > 0 then ", " else "" : String) : Str)).length = 0 := by decide
    omega
theorem tupleText_le (ts : List Str) : (tupleText ts).length ≤ piled ts + 3 := by
  have := fmt_text ts
  omega
theorem dictText_le (ts : List Str) : (dictText ts).length ≤ piled ts + 2 := by
  unfold dictText
  rw [strLen_append, strLen_append]
  have e1 : (("}" : String) : Str).length = 1 := rfl
  have e2 : (("{" : String) : Str).length = 1 := rfl
  by_cases h : ts = []
  · subst h
    decide
  · have := join_length_add ts h
    omega
theorem bool_le (b : Bool) : (PyData.bool b).shown.length ≤ 5 := by cases b <;> decide
mutual
theorem shown_le : ∀ d : PyData, d.showable = true → d.shown.length ≤ cost d
  | .none, _ => by decide
  | .bool b, _ => bool_le b
  | .int i, h => by
    have h' : i.natAbs.log2 < 1920 := by simpa [PyData.showable] using h
    have z := PyProof.Rows.int_text_len_1921 h'
    show (Str.ofString (toString i)).length ≤ 1922
    omega
  | .str x, _ => Nat.le_refl _
  | .list xs, h => by
    have z := showns_le xs (by simpa [PyData.showable] using h)
    have y := listText_le (PyData.shownAll xs)
    show (listText (PyData.shownAll xs)).length ≤ costs xs + 2
    omega
  | .tuple xs, h => by
    have z := showns_le xs (by simpa [PyData.showable] using h)
    have y := tupleText_le (PyData.shownAll xs)
    show (tupleText (PyData.shownAll xs)).length ≤ costs xs + 3
    omega
  | .dict kvs, h => by
    have z := shownKv_le kvs (by simpa [PyData.showable] using h)
    have y := dictText_le (PyData.shownKv kvs)
    show (dictText (PyData.shownKv kvs)).length ≤ costKv kvs + 2
    omega
theorem showns_le : ∀ xs : List PyData, PyData.showableAll xs = true → piled (PyData.shownAll xs) ≤ costs xs
  | [], _ => Nat.le_refl _
  | x :: xs, h => by
    have h' : x.showable = true ∧ PyData.showableAll xs = true := by simpa [PyData.showableAll] using h
    have a := shown_le x h'.1
    have b := showns_le xs h'.2
    show piled (x.shown :: PyData.shownAll xs) ≤ cost x + 2 + costs xs
    rw [piled_cons]
    omega
theorem shownKv_le : ∀ kvs : List (PyData × PyData), PyData.showableKv kvs = true → piled (PyData.shownKv kvs) ≤ costKv kvs
  | [], _ => Nat.le_refl _
  | (k, v) :: r, h => by
    have h' : (k.showable = true ∧ v.showable = true) ∧ PyData.showableKv r = true := by simpa [PyData.showableKv] using h
    have a := shown_le k h'.1.1
    have b := shown_le v h'.1.2
    have c := shownKv_le r h'.2
    show piled ((k.shown ++ (((": " : String) : Str)) ++ v.shown) :: PyData.shownKv r) ≤ cost k + cost v + 4 + costKv r
    rw [piled_cons, strLen_append, strLen_append]
    have e : ((": " : String) : Str).length = 2 := rfl
    omega
end
/-- d may be shown -/
def Okd (d : PyData) : Prop := d.showable = true ∧ d.depth < 60 ∧ cost d ≤ 16000000
theorem Okd.fits {d : PyData} (h : Okd d) : d.shown.length ≤ sizeLine := by
  have := shown_le d h.1
  have := h.2.2
  rw [sizeLine_eq]
  omega
/-- what a repr asks, said once -/
theorem repr_q {K : PySem.W.Frag} {H : Hp} {Q : VK} {a : Addr} {d : PyData} (h : Rp K H (.ref a) d) (o : Okd d) (q : Q (.str d.shown) H) :
    ∃ a' d', [V.ref a] = [.ref a'] ∧ Rp K H (.ref a') d' ∧ d'.showable = true ∧ d'.depth < 60 ∧ d'.shown.length ≤ sizeLine ∧ Q (.str d'.shown) H :=
  ⟨a, d, rfl, h, o.1, o.2.1, o.fits, q⟩
theorem rpa_bls {K : PySem.W.Frag} {H : Hp} : ∀ bs : List Bool, RpA K H (bs.map V.bl) (bs.map PyData.bool)
  | [] => .nil
  | b :: bs => .cons (.bl b) (rpa_bls bs)
theorem okd_bls (bs : List Bool) (h : bs.length ≤ 1000) : Okd (.list (bs.map PyData.bool)) := by
  have h1 : ∀ bs : List Bool, PyData.showableAll (bs.map PyData.bool) = true := by
    intro bs
    induction bs with
    | nil => rfl
    | cons b bs ih => simp [PyData.showableAll, PyData.showable, ih]
  have h2 : ∀ bs : List Bool, costs (bs.map PyData.bool) = 7 * bs.length := by
    intro bs
    induction bs with
    | nil => rfl
    | cons b bs ih =>
      show cost (PyData.bool b) + 2 + costs (bs.map PyData.bool) = _
      rw [ih, List.length_cons]
      show 5 + 2 + _ = _
      omega
  have h3 : ∀ bs : List Bool, PyData.depthAll (bs.map PyData.bool) ≤ 1 := by
    intro bs
    induction bs with
    | nil => simp [PyData.depthAll]
    | cons b bs ih =>
      simp only [List.map_cons, PyData.depthAll, PyData.depth]
      omega
  refine ⟨by simpa [PyData.showable] using h1 bs, ?_, ?_⟩
  · have := h3 bs
    simp only [PyData.depth]
    omega
  · show costs (bs.map PyData.bool) + 2 ≤ _
    rw [h2]
    omega
end Vx
namespace Vx
open PySem PySem.Spec PyProof.Rows L2
open GxR (TabB GenS sh_eta)

def tabP (P : Addr) (h : Heap) : Prop := ∃ ps : Array Value, h.get? P = some { cls := .none, data := .fields ps } ∧ TriplesOk ps.toList
def tabX (P : Addr) : HO := .ext (tabP P)
theorem tabX_ok {Pr : Program} {w : World} {H : Hp} {h : Heap} {P : Addr} (e : tabP P h) : ObjOk Pr w H h P (tabX P) := by
  obtain ⟨ps, e1, t1⟩ := e
  exact ⟨⟨ps, e1, t1⟩, ⟨_, e1⟩, fun h1 h2 ⟨qs, e2, t2⟩ k => ⟨qs, k _ e2, t2⟩⟩
section
variable {X : Cx} {pins : List (Addr × Obj)} {σ : L2.St} {H : Hp} {s : Shared}
theorem inv_tab1 {P : Addr} (I : Inv X pins σ H s) (hP : H P = some (tabX P)) : tabP P s.heap := (I.hok P _ hP).1
theorem inv_tabX {P : Addr} {h' : Heap} {g' : Array GenState} {d' : Drawn} {t' : Nat} (I : Inv X pins σ H s) (hP : H P = some (tabX P)) (k : ∀ b o, b ≠ P → s.heap.get? b = some o → h'.get? b = some o)
    (hm : tabP P h') (hg : AllBare g') : Inv X pins σ H { s with heap := h', gens := g', drawn := d', toks := t' } := by
  have nP : ∀ b u, H b = some u → (u ≠ tabX P) → b ≠ P := fun b u e q z => by
    rw [z, hP] at e
    exact q (Option.some.inj e).symm
  have nN : ∀ b, H b = none → b ≠ P := fun b e z => by
    rw [z, hP] at e
    cases e
  refine I.step (g' := g') (d' := d') (ch := []) (fun b hb => absurd hb (by simp)) (fun b o _ _ _ e n => k b o (nN b n) e) (fun b o _ _ _ e n => ⟨o.slots, k b o (nN b n) e⟩)
    (fun b o _ e n => n) (fun b o _ e => ?_) (fun b xs e => e) (fun b o u e => e) (fun b qs e => ⟨#[], by rw [e]; simp⟩) (fun m hn => ?_) (fun b u e => ?_) hg
  · by_cases hb : b = P
    · obtain ⟨ps, q, _⟩ := hm
      rw [hb]
      exact ⟨_, q⟩
    · exact ⟨o, k b o hb e⟩
  · obtain ⟨ob, es, ep, ho, r⟩ := hn
    exact ⟨ob, es, ep, k _ ob (nN _ I.free) ho, r⟩
  · by_cases hb2 : b = P
    · rw [hb2] at e ⊢
      rw [hP] at e
      cases e
      exact tabX_ok hm
    · refine (I.hok b u e).stay (fun d v hd q => k d v ?_ q) (fun d q => q) fun d xs q => q
      rcases hd with z | z
      · rw [z]
        exact hb2
      · exact nP d _ z (fun q => by cases q)

/-- the element, at each item of the tuple -/
def EltT (X : Cx) (P : Addr) (scope : Scope) (x : Str) (elt : Expr) (s1 : Shared) (its : List Value) (bs : List Bool) : Prop :=
  ∀ (cenv : Env) (A' : Around) (E' : Value → Shared → Prop) (j : Nat) (u : Value) (b : Bool) (s₂ : Shared) (m₂ : Str → Option Value), cenv.scope = scope → cenv.globals = mainGlobals → cenv.builtins = builtinsNs →
    A'.handled = none → A'.depth ≤ X.A.depth + 1 → A'.units ≤ X.A.units + 8 → (∀ b o, b ≠ P → s1.heap.get? b = some o → s₂.heap.get? b = some o) →
    its[j]? = some u → bs[j]? = some b → s₂.heap.Ns cenv.locals m₂ → m₂ x = some u → wpAny (model X.prog X.w) A' (eval elt cenv) (fun y s₃ => y = .bool b ∧ Keeps s₂ s₃) E' s₂

def trB (bs : List Bool) (j : Nat) : Bool := match bs[j]? with | some b => b | none => false
theorem trB_some {bs : List Bool} {j : Nat} {b : Bool} (h : bs[j]? = some b) : trB bs j = b := by
  unfold trB
  rw [h]
theorem all_trB (bs : List Bool) : (List.range bs.length).all (trB bs) = bs.all id := by
  rw [Bool.eq_iff_iff, List.all_eq_true, List.all_eq_true]
  constructor
  · intro h b hb
    obtain ⟨j, hj, e⟩ := List.getElem_of_mem hb
    have q := h j (List.mem_range.mpr hj)
    rw [trB_some (List.getElem?_eq_getElem hj), e] at q
    exact q
  · intro h j hj
    have hj' := List.mem_range.mp hj
    rw [trB_some (List.getElem?_eq_getElem hj')]
    exact h _ (List.getElem_mem hj')

/-- the generator g, ready to be walked -/
def ReadyT (X : Cx) (pins : List (Addr × Obj)) (σ : L2.St) (H1 : Hp) (bs : List Bool) (g : Addr) (s5 : Shared) : Prop :=
  ∃ (fp wr : List Addr) (G : Array GenState → Array GenState → Prop) (F : Nat → Value → Prop) (St : Nat → Shared → Prop),
    WalksS X.prog X.w X.A.in1 g fp wr G bs.length F St ∧ St 0 s5 ∧
    TruthOf X.prog X.w X.A.in1 F (trB bs) ∧
    ∀ s', Moved wr G s5 s' → Inv X pins σ H1 s'

theorem gen_tup {c P : Addr} {elt iter : Expr} {x : Str} {px gpos : Pos} {scope : Scope} {te : TE} {k : Nat} {Q' : Value → Shared → Prop} {R : Hp → List Bool → Prop} {EH : Hp → List V → List Bool → Prop}
    (hr : Room k X.A) (TB : TabB X.base X.mg c P) (hcode : X.env.code = .ref c) (S : GenS X.env scope x) (hi : PE X iter te)
    (hel : ∀ (H1 : Hp) (s1 : Shared) (xs : List V) (its : List Value) (bs : List Bool), Inv X pins σ H1 s1 → Vals xs its → EH H1 xs bs → EltT X P scope x elt s1 its bs)
    (hs : ∀ v, genFold iter X.env v = pure v) (I : Inv X pins σ H s)
    (h : te σ H fun v H1 => ∃ (a : Addr) (xs : List V) (bs : List Bool), v = .ref a ∧ SqT X.K H1 a xs ∧ H1 P = some (tabX P) ∧ bs.length = xs.length ∧ EH H1 xs bs ∧ R H1 bs)
    (hQ : ∀ H1 bs g s5, R H1 bs → ReadyT X pins σ H1 bs g s5 → Q' (.ref g) s5) :
    wpAny (model X.prog X.w) X.A (eval (.GeneratorExp elt [⟨.Name x px, iter, [], 0⟩] scope gpos) X.env) Q' X.xe s := by
  refine wpAny_GeneratorExp_walksQD hr.hd S.co (closure_ok S.free) S.cell S.dot S.loc S.kind (by have := hr.dp; omega) ?_ hs
  refine thn (hi.run pins s σ H _ I h) fun xv s1 ⟨v, H1, I1, r1, q1⟩ => ?_
  obtain ⟨a, xs, bs, rfl, hsq, hP, hlen, hEH, q1⟩ := q1
  cases r1
  obtain ⟨its, rv, pT, _⟩ := I1.tuple hsq
  have EL := hel H1 s1 xs its bs I1 rv hEH
  have hbl : bs.length = its.length := hlen.trans rv.length
  refine wpAny_pyIter_tuple pT ?_
  generalize ho : ({ cls := .type "tuple_iterator", data := .fields #[.ref a, .int 0 0] } : Obj) = o
  obtain ⟨ps, hPs, ht⟩ := inv_tab1 I1 hP
  have hPlt : P < s1.heap.objs.size := Heap.lt_size hPs
  have hP2 : (s1.heap.push o).get? P = some { cls := .none, data := .fields ps } := Heap.get?_push_of_some _ hPs
  have cd : PySem.W.CodeHd (s1.heap.push o) c P := TB.code.keeps fun b u e => Heap.get?_push_of_some _ (I1.bk b u e)
  have lim2 : (s1.heap.push o).NoLimit := I1.nolimit.push o
  have alt : a < s1.heap.objs.size := by
    obtain ⟨o', ho', _⟩ := pT
    exact Heap.lt_size ho'
  have naP : a ≠ P := fun z => by
    obtain ⟨o', ho', hc', n, hd'⟩ := pT
    rw [z, hPs] at ho'
    cases ho'
    cases hd'
  have cont : ∀ (code : Value) (h3 : Heap) (tk : Nat) (ps' : Array Value), Heap.ExtBut P (s1.heap.push o) h3 → (s1.heap.push o).objs.size ≤ h3.objs.size → h3.get? P = some { cls := .none, data := .fields ps' } → TriplesOk ps'.toList →
      wpAny (model X.prog X.w) X.A (builtinsFor X.env.globals X.env.builtins) (fun bi s₄ =>
        ∃ Ia fp wr n₀ Pf St₀ pz F, Value.ref s1.heap.objs.size = .ref Ia ∧ (∀ A' : Around, A'.handled = none → Walks X.prog X.w A' Ia fp wr n₀ Pf St₀) ∧ St₀ 0 s₄.heap ∧ (∀ b ∈ fp, b < s₄.heap.objs.size) ∧ s₄.heap.NoLimit ∧ cStatics ∉ wr ∧
          (∀ href : Heap, (∀ b o, s₄.heap.get? b = some o → href.get? b = some o) →
            QuietGenD X.prog X.w (genEnv scope (cloFrom X.env.cells scope.names []) s₄.heap.objs.size code bi X.env) x [] elt (List.range s₄.heap.objs.size) wr Pf pz F href (X.A.depth + 1) (X.A.units + 8)) ∧
          (∀ a h₅ tk gs, gs.bare = true → s₄.heap.objs.size < a → h₅.objs.size = a + 1 → (∀ b o, s₄.heap.get? b = some o → h₅.get? b = some o) →
            WalksS X.prog X.w X.A.in4 a (a :: s₄.heap.objs.size :: List.range s₄.heap.objs.size) (s₄.heap.objs.size :: wr) (GenOnlyQ s₄.gens.size) (passing pz n₀ 0).length
              (fun j y => ∃ i, (passing pz n₀ 0)[j]? = some i ∧ F i y) (GenAt X.prog X.w X.A.in4 a s₄.gens.size s₄.heap.objs.size (List.range s₄.heap.objs.size) wr pz n₀ F) →
            GenAt X.prog X.w X.A.in4 a s₄.gens.size s₄.heap.objs.size (List.range s₄.heap.objs.size) wr pz n₀ F 0 { s₄ with gens := s₄.gens.push gs, toks := tk, heap := h₅ } →
            Q' (.ref a) { s₄ with gens := s₄.gens.push gs, toks := tk, heap := h₅ })) X.xe { s1 with heap := h3, toks := tk } := by
    intro code h3 tk ps' hx hsz hP3 ht3
    obtain ⟨bm, ob, e1, e2, e3, e4, e5, e6, e7, e8⟩ := TB.bm
    have hcP : cStatics ≠ P := fun e => by
      obtain ⟨_, hns, _⟩ := I1.nolimit
      obtain ⟨o', es, ep, ho, hd, _⟩ := hns
      rw [e, hPs] at ho
      cases ho
      cases hd
    have hcl : cStatics < s1.heap.objs.size := let ⟨_, hns, _⟩ := I1.nolimit; hns.lt
    have sz2 : (s1.heap.push o).objs.size = s1.heap.objs.size + 1 := Heap.size_push ..
    have keep3 : ∀ b u, b ≠ P → s1.heap.get? b = some u → h3.get? b = some u := fun b u hb e => hx b u hb (Heap.get?_push_of_some _ e)
    have it3 : h3.get? s1.heap.objs.size = some o := hx _ _ (fun z => Nat.ne_of_lt hPlt z.symm) (Heap.get?_push_size _ (by rw [← ho]; rfl))
    refine wpAny_builtinsFor (m := X.mg) (by rw [I1.ok.glob]; exact ((I1.mod.glob.keeps I1.bk).push o).extBut hx TB.gP) e1 e2 (keep3 _ _ e4 (I1.bk _ _ e5)) e6 e7 e8 ?_
    refine ⟨s1.heap.objs.size, [s1.heap.objs.size, a], [s1.heap.objs.size], its.toArray.size, (fun i v => its.toArray[i]? = some v), (fun i h => h.IsTupleIter s1.heap.objs.size a i ∧ h.IsTuple a its.toArray), (fun _ => true), (fun i y => ∃ b, bs[i]? = some b ∧ y = .bool b), rfl, fun A' hA => Walks.tuple hA _ _ (Nat.ne_of_lt alt) _, ?_, ?_, lim2.extBut hx hcP, ?_, ?_, ?_⟩
    · refine ⟨?_, ?_⟩
      · rw [← ho] at it3
        exact ⟨_, it3, rfl, rfl⟩
      · obtain ⟨o', ho', r'⟩ := pT
        exact ⟨o', keep3 _ _ naP ho', r'⟩
    · intro b hb
      have l1 : (s1.heap.objs.size : Nat) < h3.objs.size := by omega
      rcases List.mem_cons.mp hb with z | z
      · rw [z]
        exact l1
      · rcases List.mem_cons.mp z with z | z
        · rw [z]
          exact Nat.lt_trans alt l1
        · cases z
    · intro z
      rcases List.mem_cons.mp z with z | z
      · exact Nat.ne_of_lt hcl z
      · cases z
    · intro href hhref
      refine ⟨fun A' E' i v s₂ m₂ hA hd hu hPv hn hm hk => ?_, fun A' E' i v s₂ m₂ hA hd hu hPv hp hn hm hk => ?_⟩
      · simp only [List.forIn_nil]
        exact wpAny_pure ⟨rfl, GxR.keeps_refl _⟩
      · have hi : i < its.length := by
          obtain ⟨hlt, _⟩ := Array.getElem?_eq_some_iff.mp hPv
          simpa using hlt
        have e9 : its[i]? = some v := by simpa using hPv
        have e10 : bs[i]? = some bs[i] := List.getElem?_eq_getElem (by omega)
        refine wpAny_mono (EL _ A' E' i v bs[i] s₂ m₂ rfl I1.ok.glob rfl hA hd hu (fun b u hb e => ?_) e9 e10 hn hm) (fun y s3 r => ⟨⟨bs[i], e10, r.1⟩, r.2⟩) fun _ _ e => e
        have l4 := Heap.lt_size (keep3 b u hb e)
        refine hk b (List.mem_range.mpr l4) (fun z => ?_) u (hhref b u (keep3 b u hb e))
        rcases List.mem_cons.mp z with z | z
        · have := Heap.lt_size e
          rw [z] at this
          exact Nat.lt_irrefl _ this
        · cases z
    · intro g h5 tk5 gs hgb hag hsz5 hk5 W5 hat
      simp only [GxR.passing_true, List.length_range] at W5
      have ew : its.toArray.size = bs.length := by rw [List.size_toArray, hbl]
      rw [ew] at W5 hat
      refine hQ H1 bs g _ q1 ⟨_, _, _, _, _, W5.in4_1, hat, ?_, fun s' hm => ?_⟩
      · intro j y sj Qj Ej hy hQj
        obtain ⟨i, hij, b, hb, rfl⟩ := hy
        obtain ⟨hj, ej⟩ := List.getElem?_eq_some_iff.mp hij
        rw [List.getElem_range] at ej
        subst ej
        have hQ2 : Qj (trB bs j) sj := hQj
        rw [trB_some hb] at hQ2
        exact wpAny_truthy_bool hQ2
      · have nwr : ∀ b u, s1.heap.get? b = some u → b ∉ h3.objs.size :: [s1.heap.objs.size] := fun b u e hb => by
          have hl := Heap.lt_size e
          rcases List.mem_cons.mp hb with z | z
          · rw [z] at hl
            have h9 : (h3.objs.size : Nat) < s1.heap.objs.size := hl
            omega
          · rcases List.mem_cons.mp z with z | z
            · rw [z] at hl
              exact Nat.lt_irrefl _ hl
            · cases z
        have J := inv_tabX (h' := s'.heap) (g' := s'.gens) (d' := s'.drawn) (t' := s'.toks) I1 hP (fun b u hb e => hm.heap b u (nwr b u e) (hk5 b u (keep3 b u hb e)))
          ⟨ps', hm.heap P _ (nwr P _ hPs) (hk5 P _ hP3), ht3⟩ (AllBare.movedS (I1.bare.push hgb) hm)
        rw [sh_eta s1 s' hm.os] at J
        exact J
  refine ⟨lim2, ?_⟩
  cases hf : codeAmong gpos ps.toList with
  | none =>
    refine wpAny_genexprCodeX hcode (cd.code hP2 ht) (cd.tab hP2) hf fun c' h' tk hx hge hlt hco' _ htab' _ => ?_
    obtain ⟨o1, vs, f1, tf, fl, tg, inF, tx, tt, op, _, _, _, _, _, _, _, _, _, htr, _⟩ := hco'
    exact cont _ h' tk _ hx (Nat.le_trans hge (Nat.le_of_lt hlt)) htab'.2 htr
  | some cv =>
    refine wpAny_genexprCode_hit hcode (cd.code hP2 ht) hf ?_
    exact cont cv (s1.heap.push o) s1.toks ps (Heap.ExtBut.refl _ _) (Nat.le_refl _) hP2 ht

/-- all(test for x in e), e a tuple -/
def tAllT (K : PySem.W.Frag) (P : Addr) (EH : Hp → List V → List Bool → Prop) (te : TE) : TE := fun σ H Q => te σ H fun v H1 => ∃ (a : Addr) (xs : List V) (bs : List Bool), v = .ref a ∧ SqT K H1 a xs ∧ H1 P = some (tabX P) ∧ bs.length = xs.length ∧ EH H1 xs bs ∧ Q (.bl (bs.all id)) H1
theorem pe_allT {c P : Addr} {elt iter : Expr} {x : Str} {px p pos gpos : Pos} {scope : Scope} {te : TE} {k : Nat} {EH : Hp → List V → List Bool → Prop}
    (hr : Room k X.A) (hg : Gl X "all") (hm : X.mg "all" = none) (hb : bootBuiltins "all" = some (.builtin "all")) (TB : TabB X.base X.mg c P) (hcode : X.env.code = .ref c) (S : GenS X.env scope x) (hi : PE X iter te)
    (hel : ∀ (pins : List (Addr × Obj)) (σ : L2.St) (H1 : Hp) (s1 : Shared) (xs : List V) (its : List Value) (bs : List Bool), Inv X pins σ H1 s1 → Vals xs its → EH H1 xs bs → EltT X P scope x elt s1 its bs)
    (hs : ∀ v, genFold iter X.env v = pure v)
    (he : starEach [.GeneratorExp elt [⟨.Name x px, iter, [], 0⟩] scope gpos] X.env = (false, eval (.GeneratorExp elt [⟨.Name x px, iter, [], 0⟩] scope gpos) X.env) :: starEach [] X.env := by rfl) :
    PE X (.Call (.Name "all" p) [.GeneratorExp elt [⟨.Name x px, iter, [], 0⟩] scope gpos] [] pos) (tAllT X.K P EH te) := by
  refine ⟨fun pins s σ H Q I h => ?_⟩
  refine wpAny_Call_Name_kw (ld_blt I hg hm hb ?_)
  refine PyProof.Rows.callWith_builtin1 ?_ he (by rfl)
  rw [he]
  show wpAny _ _ (spliced ((false, eval (.GeneratorExp elt [⟨.Name x px, iter, [], 0⟩] scope gpos) X.env) :: backTo pos (starEach [] X.env))) _ _ s
  refine Calls.spliced_cons (gen_tup (R := fun H1 bs => Q (.bl (bs.all id)) H1) hr TB hcode S hi (hel pins σ) hs I h fun H1 bs g s5 hR hG => ?_)
  obtain ⟨fp, wr, G, F, St, W, hst, htr, hI⟩ := hG
  refine Calls.spliced_nil ?_
  refine call_all_walkS (W.self 0 _ _ _ hst ⟨g, fp, wr, G, _, F, St, _, rfl, W, hst, htr, fun s' hmv => ?_⟩)
  refine ⟨.bl _, H1, hI s' hmv, rfl, ?_⟩
  rw [all_trB]
  exact hR
end
end Vx
namespace Vx
open PySem PySem.Spec PyProof.Rows L2
open GxR (TabB)
theorem law_endT {P : Program} {w : World} {K : PySem.W.Frag} {mg mb : Str → Option Value} {k : Nat} {fa a : Addr} {cs : List (Addr × Addr)} {fd : FuncData} {x : Str} {sp : Sp}
    {s₁ : Shared} {vs : List Value} {ns : List Int} (KX : K.In s₁.heap) (hns : s₁.heap.Ns mainGlobals mg) (hb : s₁.heap.Ns builtinsNs mb)
    (hbb : ∀ x : Str, x ≠ "__name__" → mb x = bootBuiltins x) (lim : s₁.heap.NoLimit) (sy : Sys s₁.heap) (hg : s₁.gens = #[])
    (hT : ∀ p ∈ cs, s₁.heap.get? p.2 = some { cls := .none, data := .fields #[] }) (nT : ∀ p ∈ cs, K.lookup p.2 = none) (C : ∀ p ∈ cs, PySem.W.CodeHd s₁.heap p.1 p.2)
    (hbm : ∃ (bm : Addr) (ob : Obj), mg "__builtins__" = some (.ref bm) ∧ bm ≠ builtinsNs ∧ s₁.heap.get? bm = some ob ∧ ob.cls = .type "module" ∧ ob.dict = some builtinsNs ∧ ob.data = .plain)
    (ha : s₁.heap.get? a = some { cls := .type "list", data := .seq vs.toArray }) (hi : IntsAre vs ns) (hl : ns.length ≤ sizeLine) (hr : Room k callerA)
    (F : ∀ base : Heap, K.In base → base.Ns mainGlobals mg → Sys base → (∀ p ∈ cs, TabB base mg p.1 p.2) → FnG P w K mg base CX0 k fa fd [x] sp)
    (hbind : ∀ (s : Shared) (u : Value), BindsTo s fd ⟨[u], []⟩ [(x, u)])
    (hsp : ∀ H : Hp, (∀ p ∈ cs, H p.2 = some (tabX p.2)) → SqL K H a (ns.map V.int) → sp [.ref a] H (fun v H' => v = .bl true ∧ Same H H') fun _ _ _ => False) :
    codeAny (model P w) callerA (.call (.ref fa) ⟨[.ref a], []⟩)
      (fun r s' => r = .ok (.ret (.bool true)) ∧ OldK s₁.heap s'.heap ∧ s'.os = s₁.os ∧ AllBare s'.gens) s₁ := by
  have rv := vals_ints hi
  have lenV := hi.length
  have isT : ∀ b : Addr, b ∈ cs.map (·.2) → s₁.heap.get? b = some { cls := .none, data := .fields #[] } := fun b hb => by
    obtain ⟨p, hp, e⟩ := List.mem_map.mp hb
    rw [← e]
    exact hT p hp
  have aT : a ∉ cs.map (·.2) := fun z => by
    have q := isT a z
    rw [ha] at q
    have z' : Data.seq vs.toArray _ = Data.fields #[] := congrArg Obj.data (Option.some.inj q)
    cases z'
  have memT : ∀ p ∈ cs, p.2 ∈ cs.map (·.2) := fun p hp => List.mem_map.mpr ⟨p, hp, rfl⟩
  have trip0 : TriplesOk (#[] : Array Value).toList := by
    first
      | exact .nil
      | decide
      | simp [TriplesOk]
  have core : ∀ H : Hp, (∀ p ∈ cs, H p.2 = some (tabX p.2)) → (∀ b, H b = none ∨ b ∈ cs.map (·.2) ∨ ∃ o xs, H b = some (.frz o (.lst xs))) → SqL K H a (ns.map V.int) → HOk P w H s₁.heap → (∀ b, H b ≠ none → b = a ∨ b ∈ cs.map (·.2)) → (H a ≠ none → K.lookup a = none) →
      codeAny (model P w) callerA (.call (.ref fa) ⟨[.ref a], []⟩) (fun r s' => r = .ok (.ret (.bool true)) ∧ OldK s₁.heap s'.heap ∧ s'.os = s₁.os ∧ AllBare s'.gens) s₁ := by
    intro H hH hO hS hok hA hK
    have base_of : ∀ {b : Addr} {o : Obj}, s₁.heap.get? b = some o → H b = none → (hidT s₁.heap H).get? b = some o := fun e n => hidT_get e n
    have noD : ∀ {b : Addr} {o : Obj}, s₁.heap.get? b = some o → (∀ vs n, o.data ≠ .seq vs n) → o.data ≠ .fields #[] → H b = none := fun {b o} e h1 h2 => by
      cases q : H b with
      | none => rfl
      | some u =>
        rcases hA b (by rw [q]; simp) with e' | e'
        · rw [e', ha] at e
          cases e
          exact (h1 _ _ rfl).elim
        · rw [isT b e'] at e
          cases e
          exact (h2 rfl).elim
    have noA : ∀ {b : Addr} {o : Obj} {es : Array DictEntry} {ep : Nat}, s₁.heap.get? b = some o → o.data = .dict es ep → H b = none := fun {b o es ep} e d => by
      refine noD e (fun vs n z => ?_) fun z => ?_
      · rw [d] at z
        cases z
      · rw [d] at z
        cases z
    have nsK : ∀ {b : Addr} {m : Str → Option Value}, s₁.heap.Ns b m → (hidT s₁.heap H).Ns b m := fun {b m} ⟨o, es, ep, e, d, r⟩ => ⟨o, es, ep, base_of e (noA e d), d, r⟩
    have hKb : K.In (hidT s₁.heap H) := fun b o e => base_of (KX b o e) (by
      cases q : H b with
      | none => rfl
      | some u =>
        rcases hA b (by rw [q]; simp) with e' | e'
        · rw [e'] at e q
          rw [hK (by rw [q]; simp)] at e
          cases e
        · obtain ⟨p, hp, ep⟩ := List.mem_map.mp e'
          rw [← ep, nT p hp] at e
          cases e)
    have hM : L2.Mod K mg (hidT s₁.heap H) := ⟨hKb, nsK hns, ⟨mb, nsK hb, hbb⟩, let ⟨mc, h1, h2⟩ := lim; ⟨mc, nsK h1, h2⟩⟩
    have sB : Sys (hidT s₁.heap H) := by
      obtain ⟨⟨o, es, n, e, d⟩, ⟨mc, h1, h2⟩, sn⟩ := sy
      refine ⟨⟨o, es, n, hidT_get e (noA e d), d⟩, ⟨mc, nsK h1, h2⟩, noseer_hid sn nsK fun b o e2 hc => hidT_get e2 ?_⟩
      cases q : H b with
      | none => rfl
      | some u =>
        rcases hA b (by rw [q]; simp) with e' | e'
        · rw [e', ha] at e2
          cases e2
          exact absurd (Value.type.inj hc) (by decide)
        · rw [isT b e'] at e2
          cases e2
          cases hc
    have TB : ∀ p ∈ cs, TabB (hidT s₁.heap H) mg p.1 p.2 := fun p hp => by
      have hTp := hT p hp
      refine ⟨?_, ?_, fun z => ?_⟩
      · obtain ⟨o, us, file, tf, flags, tg, inF, text, tt, e1, r1, r2, r3, r4, r5, r6, r7, r8, hne⟩ := C p hp
        refine ⟨o, us, file, tf, flags, tg, inF, text, tt, base_of e1 (noD e1 (fun vs n z => ?_) fun z => ?_), r1, r2, r3, r4, r5, r6, r7, r8, hne⟩
        · rw [r2] at z
          cases z
        · rw [r2] at z
          cases z
          simp at r3
      · obtain ⟨bm, ob, b1, b2, b3, b4, b5, b6⟩ := hbm
        have nG : bm ≠ mainGlobals := fun q => by
          obtain ⟨o, es, ep, e, hd, _⟩ := hns
          rw [q, e] at b3
          cases b3
          rw [hd] at b6
          cases b6
        have nP : bm ≠ p.2 := fun q => by
          rw [q, hTp] at b3
          cases b3
          cases b6
        refine ⟨bm, ob, b1, b2, nG, nP, base_of b3 (noD b3 (fun vs n z => ?_) fun z => ?_), b4, b5, b6⟩
        · rw [b6] at z
          cases z
        · rw [b6] at z
          cases z
      · obtain ⟨o, es, ep, e, hd, _⟩ := hns
        rw [z, hTp] at e
        cases e
        cases hd
    have e0 : Env0 P w K mg (hidT s₁.heap H) callerA [] s₁ H := ⟨rfl, hM, fun b o e => of_hidT e, Nat.le_of_eq (hidT_size _ _), trivial, fun b hb => absurd (show b ∈ ([] : List Addr) from hb) (by simp), hok, .of_eq hg⟩
    refine codeAny_mono ((F _ hKb (nsK hns) sB TB).go callerA [] s₁ H ⟨[.ref a], []⟩ [.ref a] [.ref a] _ _ hr rfl e0 (hbind s₁ (.ref a)) (.cons rfl .nil) (hsp H hH hS)) fun r s' h => ?_
    cases r with
    | error e => exact h.elim
    | ok fl =>
      cases fl with
      | next => exact False.elim h
      | brk => exact False.elim h
      | cont => exact False.elim h
      | ret u =>
        obtain ⟨v, H', os, bare, un, hok', r', q⟩ := h
        obtain ⟨q', sH⟩ : v = .bl true ∧ Same H H' := q
        subst q'
        obtain rfl : u = Value.bool true := r'
        have key : ∀ b o, b ∉ cs.map (·.2) → s₁.heap.get? b = some o → s'.heap.get? b = some o := fun b o nb e => by
          cases q : H b with
          | none => exact un.keep b o e q (by intro z; exact absurd (show b ∈ ([] : List Addr) from z) (by simp)) (by simp)
          | some u =>
            rcases hO b with z | z | ⟨ob, xs, z⟩
            · rw [q] at z; cases z
            · exact absurd z nb
            · have z2 := un.frzs b ob _ z
              obtain ⟨e1, _⟩ := hok b _ z
              obtain ⟨e2, _⟩ := hok' b _ z2
              rw [e] at e1; cases e1
              exact e2
        have grown : ∀ p ∈ cs, ∃ more : Array Value, s'.heap.get? p.2 = some { cls := .none, data := .fields more } := fun p hp => by
          obtain ⟨⟨more, z, _⟩, _⟩ := hok' p.2 _ (sH _ _ (hH p hp))
          exact ⟨_, z⟩
        refine ⟨rfl, ⟨fun b o e => ?_, fun b o e => ?_⟩, os, bare⟩
        · by_cases hb : b ∈ cs.map (·.2)
          · obtain ⟨p, hp, ep⟩ := List.mem_map.mp hb
            obtain ⟨more, hm⟩ := grown p hp
            rw [← ep] at e ⊢
            rw [hT p hp] at e
            cases e
            exact .inr (.inl ⟨((C p hp).tab (hT p hp)).isCodeTable, rfl, #[], more, rfl, by rw [Array.empty_append]; exact hm⟩)
          · exact .inl (key b o hb e)
        · by_cases hb : b ∈ cs.map (·.2)
          · obtain ⟨p, hp, ep⟩ := List.mem_map.mp hb
            obtain ⟨more, hm⟩ := grown p hp
            rw [← ep]
            exact ⟨_, hm⟩
          · exact ⟨o, key b o hb e⟩
  have tok : ∀ b, b ∈ cs.map (·.2) → ∀ H : Hp, ObjOk P w H s₁.heap b (tabX b) := fun b hb H => tabX_ok ⟨#[], isT b hb, trip0⟩
  cases hk : K.lookup a with
  | some o =>
    have e := KX a o hk
    rw [ha] at e
    cases e
    refine core (fun b => if b ∈ cs.map (·.2) then some (tabX b) else none) (fun p hp => if_pos (memT p hp)) (fun b => ?_) (.inr ⟨_, vs.toArray, _, hk, rfl, rfl, rfl, by rw [List.size_toArray, lenV]; exact hl, by simpa using rv⟩) (fun b u z => ?_) (fun b z => ?_) fun z => absurd (show (if a ∈ cs.map (·.2) then some (tabX a) else none) = none from if_neg aT) z
    · by_cases hb : b ∈ cs.map (·.2)
      · exact .inr (.inl hb)
      · exact .inl (if_neg hb)
    · by_cases hb : b ∈ cs.map (·.2)
      · have z' := (if_pos hb).symm.trans z
        cases z'
        exact tok b hb _
      · have z' := (if_neg hb).symm.trans z
        cases z'
    · by_cases hb : b ∈ cs.map (·.2)
      · exact .inr hb
      · exact absurd (if_neg hb) z
  | none =>
    refine core (fun b => if b = a then some (.frz { cls := .type "list", data := .seq vs.toArray } (.lst (ns.map V.int))) else if b ∈ cs.map (·.2) then some (tabX b) else none) (fun p hp => (if_neg (show ¬ p.2 = a from fun z => aT (by rw [← z]; exact memT p hp))).trans (if_pos (memT p hp))) (fun b => ?_)
      (.inl (.inr ⟨{ cls := .type "list", data := .seq vs.toArray }, if_pos rfl⟩)) (fun b u z => ?_) (fun b z => ?_) fun _ => hk
    · by_cases hb : b = a
      · exact .inr (.inr ⟨_, _, if_pos hb⟩)
      · by_cases hb2 : b ∈ cs.map (·.2)
        · exact .inr (.inl hb2)
        · exact .inl ((if_neg hb).trans (if_neg hb2))
    · by_cases hb : b = a
      · have z' := (if_pos hb).symm.trans z
        cases z'
        rw [hb]
        exact ⟨ha, by rw [List.length_map]; exact hl, vs, _, rv, ha⟩
      · have z1 := (if_neg hb).symm.trans z
        by_cases hb2 : b ∈ cs.map (·.2)
        · have z' := (if_pos hb2).symm.trans z1
          cases z'
          exact tok b hb2 _
        · have z' := (if_neg hb2).symm.trans z1
          cases z'
    · by_cases hb : b = a
      · exact .inl hb
      · by_cases hb2 : b ∈ cs.map (·.2)
        · exact .inr hb2
        · exact absurd ((if_neg hb).trans (if_neg hb2)) z

/-- the def x of the text, whose code object stands at c, its table at P -/
structure FunC (K : PySem.W.Frag) (mg : Str → Option Value) (x : Str) (st : Stmt) (c P : Addr) : Prop where
  ex : ∃ (f : Addr) (oc : Value) (od : Option Addr) (kV doc pm : Value) (an : Option Addr) (ct : Value) (osl : Array (Option Value)),
    K.lookup f = some ⟨oc, od, .func (PySem.W.fnOf x x (defArgs st) (defBody st) (defScope st) .none kV doc pm an (.ref c) ct), osl⟩ ∧ PySem.W.codeIn K (.ref c) x = true ∧ PySem.W.keepIn K (.ref f) = true ∧ mg x = some (.ref f)

/-- what the head tells of the law's own table of one def y -/
theorem walk_gt {l : PySem.W.OpenLaw} {n k : Nat} {q : Program} {loose : List Str} {XP : (Str → Option Value) → Heap → Prop} {YP : World → Heap → Prop}
    {d : DefRec} {K : Params → PySem.W.Frag} {sp : World → Sp} {x y : Str} {st : Stmt} (hn : l.most = some n) (hn2 : n ≤ sizeLine) (hdf : d.params.defaults = [])
    (hr : Room k callerA) (him : importsNone q = true) (hrec : ((recsOf q).any fun e => e.name == y) = true) (hY : ∀ (w : World) (h : Heap), YP w h → (K w.params).In h)
    (F : ∀ (w : World) (mg : Str → Option Value) (fa : Addr) (h : Heap), (K w.params).In h → h.Ns mainGlobals mg → mg d.name = some (.ref fa) →
      (∀ c P : Addr, PySem.W.tabIn (K w.params) y = some (c, P) → PySem.W.CodeHd h c P ∧ h.get? P = some { cls := .none, data := .fields #[] }) →
      ∃ (fd : FuncData) (c P : Addr), PySem.W.tabIn (K w.params) y = some (c, P) ∧ (K w.params).lookup P = none ∧ (∀ (s : Shared) (u : Value), BindsTo s fd ⟨[u], []⟩ [(x, u)]) ∧
        (∀ base : Heap, (K w.params).In base → base.Ns mainGlobals mg → Sys base → TabB base mg c P → FnG l.prog w (K w.params) mg base CX0 k fa fd [x] (sp w)) ∧
        ∀ (H : Hp) (a : Addr) (ns : List Int), ns.length ≤ n → H P = some (tabX P) → SqL (K w.params) H a (ns.map V.int) →
          sp w [.ref a] H (fun v H' => v = .bl true ∧ Same H H') fun _ _ _ => False) :
    PySem.W.WalkO q loose XP YP l.row.toRowW d [] (fun f vs => PySem.call f vs) := by
  refine Att.attach_call hn hdf ?_
  intro w s₀ s₁ mg mb fa o pm cd doc a vs ns G Y ho hd hcd hmg hobj hints hlen hg
  have KX := hY w _ Y
  have tb : ∀ c P : Addr, PySem.W.tabIn (K w.params) y = some (c, P) → PySem.W.CodeHd s₁.heap c P ∧ s₁.heap.get? P = some { cls := .none, data := .fields #[] } := by
    intro c P hcP
    cases hf : (recsOf q).find? (fun e => e.name == y) with
    | none =>
      obtain ⟨dL, hm, hn1⟩ := List.any_eq_true.mp hrec
      exact absurd hn1 (by simpa using (List.find?_eq_none.mp hf) dL hm)
    | some dd => exact PySem.W.tab_of G.T KX hf hcP
  obtain ⟨fd, c, P, hcP, hPn, hb, hF, hsp⟩ := F w mg fa _ KX G.T.g hmg tb
  obtain ⟨hC, hP⟩ := tb c P hcP
  refine law_endT (cs := [(c, P)]) KX G.T.g G.T.b G.T.builtins G.T.nolimit (sys_of (G.T.seer him) G.T.nolimit) hg (fun p hp => ?_) (fun p hp => ?_) (fun p hp => ?_) G.T.bmain hobj hints (Nat.le_trans hlen hn2) hr
    (fun base h1 h2 h3 h4 => hF base h1 h2 h3 (h4 (c, P) (List.mem_singleton.mpr rfl))) hb fun H hH hS => hsp H a ns hlen (hH (c, P) (List.mem_singleton.mpr rfl)) hS
  · obtain rfl := List.mem_singleton.mp hp
    exact hP
  · obtain rfl := List.mem_singleton.mp hp
    exact hPn
  · obtain rfl := List.mem_singleton.mp hp
    exact hC
end Vx
namespace Vx
open PySem PySem.Spec PyProof.Rows L2
section
variable {M : Model} {A : Around} {E : Value → Shared → Prop} {s : Shared} {Q : Value → Shared → Prop} {name : Str} {scope : Scope} {L a : Addr} {cd : Value} {pos : Pos} {x : Str} {mg mb m : Str → Option Value} {v : Value}
theorem lw_loc (hn : s.heap.Ns L m) (hv : m x = some v) (h : Q v s)
    (hk : scope.kind = .function := by rfl) (hl : (envOfC name scope L a cd).kindOf x = some .local := by rfl) (hd : (x == ("__debug__" : Str)) = false := by decide) :
    wpAny M A (eval (.Name x pos) (envOfC name scope L a cd)) Q E s := wpAny_Name (wpAny_loadName_local hk hl hn hv h) hd
theorem lw_glob (hg : s.heap.Ns mainGlobals mg) (hv : mg x = some v) (h : Q v s)
    (hk : scope.kind = .function := by rfl) (hl : (envOfC name scope L a cd).kindOf x = some .globalImplicit := by rfl) (hd : (x == ("__debug__" : Str)) = false := by decide) :
    wpAny M A (eval (.Name x pos) (envOfC name scope L a cd)) Q E s := Calls.Name_function_global hk hl (Calls.loadGlobal_global hg hv h) hd
theorem lw_blt (hg : s.heap.Ns mainGlobals mg) (hm : mg x = none) (hb : ∃ mb, s.heap.Ns builtinsNs mb ∧ ∀ x : Str, x ≠ "__name__" → mb x = bootBuiltins x) (hv : bootBuiltins x = some v) (h : Q v s) (hne : x ≠ "__name__" := by decide)
    (hk : scope.kind = .function := by rfl) (hl : (envOfC name scope L a cd).kindOf x = some .globalImplicit := by rfl) (hd : (x == ("__debug__" : Str)) = false := by decide) :
    wpAny M A (eval (.Name x pos) (envOfC name scope L a cd)) Q E s := by
  obtain ⟨mb, h1, h2⟩ := hb
  exact Calls.Name_function_global hk hl (Calls.loadGlobal_builtin hg hm h1 (by rw [h2 x hne]; exact hv) h) hd
end
/-- what a def's frame at L holds, over the heap at its entry -/
structure Lw (h0 : Heap) (L : Addr) (m : Str → Option Value) (h : Heap) : Prop where
  old : ∀ b o, h0.get? b = some o → h.get? b = some o
  ns : h.Ns L m
theorem mod_keeps {K : PySem.W.Frag} {mg : Str → Option Value} {h h' : Heap} (m : L2.Mod K mg h) (k : ∀ b o, h.get? b = some o → h'.get? b = some o) : L2.Mod K mg h' := by
  obtain ⟨a, b, ⟨mb, c1, c2⟩, d⟩ := m
  exact ⟨a.keeps k, b.keeps k, ⟨mb, c1.keeps k, c2⟩, d.keeps k⟩
/-- the same but for one address where no part of it stands -/
theorem mod_but {K : PySem.W.Frag} {mg : Str → Option Value} {h h' : Heap} {P : Addr} {ps : Array Value} (m : L2.Mod K mg h) (hP : K.lookup P = none) (hT : h.get? P = some { cls := .none, data := .fields ps })
    (k : ∀ b o, b ≠ P → h.get? b = some o → h'.get? b = some o) : L2.Mod K mg h' := by
  obtain ⟨a, b, ⟨mb, c1, c2⟩, ⟨mc, d1, d2⟩⟩ := m
  have ns : ∀ {b : Addr} {m : Str → Option Value}, h.Ns b m → h'.Ns b m := fun {b m} ⟨o, es, ep, e, d, r⟩ => ⟨o, es, ep, k _ _ (fun z => by
    rw [z, hT] at e
    cases e
    cases d) e, d, r⟩
  exact ⟨fun b o e => k b o (fun z => by rw [z, hP] at e; cases e) (a b o e), ns b, ⟨mb, ns c1, c2⟩, ⟨mc, ns d1, d2⟩⟩
end Vx
-- pyl
-- big
set_option Elab.async false
set_option linter.all false
set_option maxRecDepth 100000
set_option maxHeartbeats 4000000
namespace Vx
open PySem PySem.Spec PyProof.Rows L2
def top (i : Nat) : Stmt := PySem.Challenge.pw_allhelms_k08_whole_quick_rows.main.body.getD i (.Pass ⟨0, 0, 0, 0⟩)
abbrev s_is_whole : Stmt := top 8
abbrev s_is_fraction : Stmt := top 9
abbrev s_is_share : Stmt := top 10
abbrev s_ratio : Stmt := top 11
abbrev s_ratio_product : Stmt := top 12
abbrev s_ratio_over : Stmt := top 13
abbrev s_without_end : Stmt := top 15
abbrev s_trimmed : Stmt := top 16
abbrev s_cleared : Stmt := top 17
abbrev s_row_over : Stmt := top 18
abbrev s_whole_product : Stmt := top 19
abbrev s_times : Stmt := top 20
abbrev s_stretched : Stmt := top 21
abbrev s_common_factor : Stmt := top 22
abbrev s_divided : Stmt := top 23
abbrev s_is_row : Stmt := top 25
abbrev s_is_filled_row : Stmt := top 26
abbrev s_check_row : Stmt := top 27
abbrev s_check_filled_row : Stmt := top 28
abbrev s_row_product : Stmt := top 29
abbrev s_found_bends : Stmt := top 31
abbrev s_is_steady : Stmt := top 32
abbrev s_is_quick : Stmt := top 33
abbrev s__law_reel : Stmt := top 35
abbrev s__law_pull : Stmt := top 36
abbrev s__law_one_of : Stmt := top 37
abbrev s__law_lowest : Stmt := top 38
abbrev s__law_plus : Stmt := top 39
abbrev s__law_minus : Stmt := top 40
abbrev s__law_times : Stmt := top 41
abbrev s__law_over : Stmt := top 42
abbrev s__law_below : Stmt := top 43
abbrev s__law_part : Stmt := top 44
abbrev s__law_some : Stmt := top 45
abbrev s__law_trim : Stmt := top 46
abbrev s__law_scaled : Stmt := top 47
abbrev s__law_product : Stmt := top 48
abbrev s__law_low : Stmt := top 49
abbrev s__law_bends : Stmt := top 50
abbrev s__law_drawn : Stmt := top 51
abbrev s__law_led : Stmt := top 52
abbrev s__law_factor : Stmt := top 53
abbrev s__law_stretched : Stmt := top 54
abbrev s__law_right : Stmt := top 55
abbrev s_law : Stmt := top 56
end Vx
namespace Vx
/-! ### n / m in lowest terms -/
theorem fr_self (q : Rat) : Rat.divInt q.num q.den = q := Rat.num_divInt_den q
theorem fr_add (a b : Rat) : Rat.divInt (a.num * b.den + b.num * a.den) (a.den * b.den) = a + b := by
  have h1 : (a.den : Int) ≠ 0 := by have := a.den_nz; omega
  have h2 : (b.den : Int) ≠ 0 := by have := b.den_nz; omega
  rw [← Rat.divInt_add_divInt _ _ h1 h2, fr_self, fr_self]
theorem fr_sub (a b : Rat) : Rat.divInt (a.num * b.den - b.num * a.den) (a.den * b.den) = a - b := by
  have h1 : (a.den : Int) ≠ 0 := by have := a.den_nz; omega
  have h2 : (b.den : Int) ≠ 0 := by have := b.den_nz; omega
  rw [← Rat.divInt_sub_divInt _ _ h1 h2, fr_self, fr_self]
theorem fr_mul (a b : Rat) : Rat.divInt (a.num * b.num) (a.den * b.den) = a * b := by
  rw [← Rat.divInt_mul_divInt, fr_self, fr_self]
theorem fr_div (a b : Rat) : Rat.divInt (a.num * b.den) (a.den * b.num) = a / b := by
  rw [Rat.divInt_eq_div]
  conv => rhs; rw [← fr_self a, ← fr_self b, Rat.divInt_eq_div, Rat.divInt_eq_div]
  have h1 : ((a.den : Int) : Rat) ≠ 0 := by have := a.den_nz; exact_mod_cast this
  have h2 : ((b.den : Int) : Rat) ≠ 0 := by have := b.den_nz; exact_mod_cast this
  push_cast
  by_cases h : (b.num : Rat) = 0
  · rw [h]; grind
  · grind
/-- what ratio and _law_lowest reckon -/
theorem fr_pos {n m : Int} (hm : 0 < m) : n / ((n.natAbs.gcd m.natAbs : Nat) : Int) = (Rat.divInt n m).num ∧ m / ((n.natAbs.gcd m.natAbs : Nat) : Int) = ((Rat.divInt n m).den : Int) := by
  have hs : m.sign = 1 := Int.sign_eq_one_of_pos hm
  have hg : m.gcd n = n.natAbs.gcd m.natAbs := by rw [Int.gcd_comm]; rfl
  constructor
  · rw [Rat.num_divInt, hs, Int.one_mul, hg]
  · rw [Rat.den_divInt, if_neg (by omega), hg, Int.natCast_ediv]
    have : ((m.natAbs : Nat) : Int) = m := Int.natAbs_of_nonneg (by omega)
    rw [this]
theorem fr_neg {n m : Int} (hm : m < 0) : (n.fdiv (-((n.natAbs.gcd m.natAbs : Nat) : Int)) = (Rat.divInt n m).num) ∧ m.fdiv (-((n.natAbs.gcd m.natAbs : Nat) : Int)) = ((Rat.divInt n m).den : Int) := by
  have hs : m.sign = -1 := Int.sign_eq_neg_one_of_neg hm
  have hg : m.gcd n = n.natAbs.gcd m.natAbs := by rw [Int.gcd_comm]; rfl
  have d1 : ((n.natAbs.gcd m.natAbs : Nat) : Int) ∣ n := by
    have := Int.gcd_dvd_left n m
    exact this
  have d2 : ((n.natAbs.gcd m.natAbs : Nat) : Int) ∣ m := by
    have := Int.gcd_dvd_right n m
    exact this
  generalize hG : n.natAbs.gcd m.natAbs = g at *
  have hg0 : 0 < g := by
    rw [← hG]
    exact Nat.gcd_pos_of_pos_right _ (by omega)
  obtain ⟨n', rfl⟩ := d1
  obtain ⟨m', rfl⟩ := d2
  have hgi : (g : Int) ≠ 0 := by omega
  have e1 : ((g : Int) * n').fdiv (-(g : Int)) = -n' := by
    rw [show (g : Int) * n' = (-(g : Int)) * (-n') by grind, Int.mul_fdiv_cancel_left _ (by omega)]
  have e2 : ((g : Int) * m').fdiv (-(g : Int)) = -m' := by
    rw [show (g : Int) * m' = (-(g : Int)) * (-m') by grind, Int.mul_fdiv_cancel_left _ (by omega)]
  have hm' : m' < 0 := by
    by_cases h : m' < 0
    · exact h
    · have : 0 ≤ (g : Int) * m' := Int.mul_nonneg (by omega) (by omega)
      omega
  constructor
  · rw [e1, Rat.num_divInt, hs, hg]
    rw [show (-1 : Int) * ((g : Int) * n') = (g : Int) * (-n') by grind, Int.mul_ediv_cancel_left _ hgi]
  · rw [e2, Rat.den_divInt, if_neg (by omega), hg]
    have e3 : ((g : Int) * m').natAbs = g * m'.natAbs := by rw [Int.natAbs_mul]; simp
    rw [e3, Nat.mul_div_cancel_left _ hg0]
    omega
theorem fr_pos_f {n m : Int} (hm : 0 < m) : (n.fdiv ((n.natAbs.gcd m.natAbs : Nat) : Int) = (Rat.divInt n m).num) ∧ m.fdiv ((n.natAbs.gcd m.natAbs : Nat) : Int) = ((Rat.divInt n m).den : Int) := by
  obtain ⟨a, b⟩ := fr_pos (n := n) hm
  rw [← a, ← b, Int.fdiv_eq_ediv_of_nonneg _ (by omega), Int.fdiv_eq_ediv_of_nonneg _ (by omega)]
  exact ⟨rfl, rfl⟩
/-! ### sizes -/
def Qz (b : Nat) (q : Rat) : Prop := q.num.natAbs < 2 ^ b ∧ q.den < 2 ^ b
theorem Qz.mono {b c : Nat} {q : Rat} (h : Qz b q) (le : b ≤ c) : Qz c q :=
  ⟨Nat.lt_of_lt_of_le h.1 (Nat.pow_le_pow_right (by decide) le), Nat.lt_of_lt_of_le h.2 (Nat.pow_le_pow_right (by decide) le)⟩
theorem qz_div {n m : Int} {b : Nat} (h1 : n.natAbs < 2 ^ b) (h2 : m.natAbs < 2 ^ b) (h0 : m ≠ 0) : Qz b (Rat.divInt n m) := by
  constructor
  · rw [Rat.num_divInt]
    refine Nat.lt_of_le_of_lt ?_ h1
    have : (m.sign * n / (m.gcd n : Int)).natAbs ≤ (m.sign * n).natAbs := Int.natAbs_ediv_le_natAbs _ _
    rw [Int.natAbs_mul] at this
    have hs : m.sign.natAbs ≤ 1 := by
      rcases Int.lt_trichotomy m 0 with h | h | h
      · rw [Int.sign_eq_neg_one_of_neg h]; decide
      · omega
      · rw [Int.sign_eq_one_of_pos h]; decide
    calc _ ≤ m.sign.natAbs * n.natAbs := this
      _ ≤ 1 * n.natAbs := Nat.mul_le_mul_right _ hs
      _ = n.natAbs := Nat.one_mul _
  · rw [Rat.den_divInt, if_neg h0]
    exact Nat.lt_of_le_of_lt (Nat.div_le_self _ _) h2
theorem bz_mul {i j : Int} {a b : Nat} (ha : i.natAbs < 2 ^ a) (hb : j.natAbs < 2 ^ b) : (i * j).natAbs < 2 ^ (a + b) := by
  rw [Int.natAbs_mul, Nat.pow_add]
  exact Nat.mul_lt_mul'' ha hb
theorem bz_add {i j : Int} {a : Nat} (ha : i.natAbs < 2 ^ a) (hb : j.natAbs < 2 ^ a) : (i + j).natAbs < 2 ^ (a + 1) := by
  rw [Nat.pow_succ]
  omega
theorem bz_sub {i j : Int} {a : Nat} (ha : i.natAbs < 2 ^ a) (hb : j.natAbs < 2 ^ a) : (i - j).natAbs < 2 ^ (a + 1) := by
  rw [Nat.pow_succ]
  omega
theorem bz_mono {i : Int} {a b : Nat} (ha : i.natAbs < 2 ^ a) (h : a ≤ b) : i.natAbs < 2 ^ b := Nat.lt_of_lt_of_le ha (Nat.pow_le_pow_right (by decide) h)
theorem Qz.d {b : Nat} {q : Rat} (h : Qz b q) : ((q.den : Nat) : Int).natAbs < 2 ^ b := h.2
theorem Qz.add {a b : Nat} {x y : Rat} (hx : Qz a x) (hy : Qz b y) : Qz (a + b + 1) (x + y) := by
  rw [← fr_add]
  refine qz_div (bz_add (bz_mul hx.1 hy.d) (by rw [Nat.add_comm]; exact bz_mul hy.1 hx.d)) (bz_mono (bz_mul hx.d hy.d) (Nat.le_succ _)) ?_
  have h1 := x.den_nz
  have h2 := y.den_nz
  exact Int.mul_ne_zero (by omega) (by omega)
theorem Qz.sub {a b : Nat} {x y : Rat} (hx : Qz a x) (hy : Qz b y) : Qz (a + b + 1) (x - y) := by
  rw [← fr_sub]
  refine qz_div (bz_sub (bz_mul hx.1 hy.d) (by rw [Nat.add_comm]; exact bz_mul hy.1 hx.d)) (bz_mono (bz_mul hx.d hy.d) (Nat.le_succ _)) ?_
  have h1 := x.den_nz
  have h2 := y.den_nz
  exact Int.mul_ne_zero (by omega) (by omega)
theorem Qz.mul {a b : Nat} {x y : Rat} (hx : Qz a x) (hy : Qz b y) : Qz (a + b) (x * y) := by
  rw [← fr_mul]
  refine qz_div (bz_mul hx.1 hy.1) (bz_mul hx.d hy.d) ?_
  have h1 := x.den_nz
  have h2 := y.den_nz
  exact Int.mul_ne_zero (by omega) (by omega)
theorem qz0 {b : Nat} (h : 0 < b) : Qz b 0 := ⟨Nat.two_pow_pos b, Nat.one_lt_two_pow (by omega)⟩
theorem qz1 {b : Nat} (h : 0 < b) : Qz b 1 := ⟨Nat.one_lt_two_pow (by omega), Nat.one_lt_two_pow (by omega)⟩
/-! ### rows by their worths -/
def ev : List Rat → Rat → Rat
  | [], _ => 0
  | c :: l, x => c + x * ev l x
/-- the last number is not 0 -/
def Tr (l : List Rat) : Prop := ∀ h : l ≠ [], l.getLast h ≠ 0
theorem tr_nil : Tr [] := fun h => absurd rfl h
theorem Tr.tail {c : Rat} {l : List Rat} (h : Tr (c :: l)) : Tr l := fun hn => by
  have := h (List.cons_ne_nil _ _)
  rwa [List.getLast_cons hn] at this
theorem Tr.ne {c : Rat} (h : Tr [c]) : c ≠ 0 := h (List.cons_ne_nil _ _)
theorem ev_zeros {l : List Rat} (h : ∀ c ∈ l, c = 0) (x : Rat) : ev l x = 0 := by
  induction l with
  | nil => rfl
  | cons c l ih =>
    show c + x * ev l x = 0
    rw [ih fun d hd => h d (List.mem_cons_of_mem _ hd), h c List.mem_cons_self]
    grind
/-- far out a row that is not nought is far from 0 -/
theorem ev_far (l : List Rat) (h : ∃ c ∈ l, c ≠ 0) : ∃ X e : Rat, 1 ≤ X ∧ 0 < e ∧ ∀ x, X ≤ x → e ≤ ev l x ∨ ev l x ≤ -e := by
  induction l with
  | nil => obtain ⟨c, hc, _⟩ := h; cases hc
  | cons c l ih =>
    by_cases hl : ∃ d ∈ l, d ≠ 0
    · obtain ⟨X, e, hX, he, hf⟩ := ih hl
      have hen : e ≠ 0 := by grind
      refine ⟨X + (c.abs + 1) / e, 1, ?_, by decide, fun x hx => ?_⟩
      · have h1 : 0 ≤ c.abs := Rat.abs_nonneg
        have h2 : 0 ≤ (c.abs + 1) / e := by
          rw [Rat.div_def]
          exact Rat.mul_nonneg (by grind) (Rat.le_of_lt (Rat.inv_pos.mpr he))
        grind
      · have h1 : 0 ≤ c.abs := Rat.abs_nonneg
        have h2 : 0 ≤ (c.abs + 1) / e := by
          rw [Rat.div_def]
          exact Rat.mul_nonneg (by grind) (Rat.le_of_lt (Rat.inv_pos.mpr he))
        have hxX : X ≤ x := by grind
        have hx1 : (c.abs + 1) / e ≤ x := by grind
        have hx0 : 0 ≤ x := by grind
        have h3 : c.abs + 1 ≤ x * e := by
          have h4 : ((c.abs + 1) / e) * e ≤ x * e := Rat.mul_le_mul_of_nonneg_right hx1 (Rat.le_of_lt he)
          have h5 : ((c.abs + 1) / e) * e = c.abs + 1 := by grind
          rw [h5] at h4
          exact h4
        have hc1 : c ≤ c.abs := by unfold Rat.abs; split <;> grind
        have hc2 : -c ≤ c.abs := by unfold Rat.abs; split <;> grind
        show 1 ≤ c + x * ev l x ∨ c + x * ev l x ≤ -1
        rcases hf x hxX with h | h
        · left
          have h6 : x * e ≤ x * ev l x := Rat.mul_le_mul_of_nonneg_left h hx0
          grind
        · right
          have h6 : x * ev l x ≤ x * (-e) := Rat.mul_le_mul_of_nonneg_left h hx0
          grind
    · have hz : ∀ d ∈ l, d = 0 := fun d hd => Classical.byContradiction fun z => hl ⟨d, hd, z⟩
      have hc : c ≠ 0 := by
        obtain ⟨d, hd, hne⟩ := h
        rcases List.mem_cons.mp hd with rfl | hd
        · exact hne
        · exact absurd (hz d hd) hne
      have e1 : ∀ x, ev (c :: l) x = c := fun x => by
        show c + x * ev l x = c
        rw [ev_zeros hz]
        grind
      rcases (by grind : c < 0 ∨ c = 0 ∨ 0 < c) with hc0 | hc0 | hc0
      · exact ⟨1, -c, by decide, by grind, fun x _ => by rw [e1]; right; grind⟩
      · exact absurd hc0 hc
      · exact ⟨1, c, by decide, hc0, fun x _ => by rw [e1]; left; grind⟩
theorem tr_some {c : Rat} {l : List Rat} (h : Tr (c :: l)) : ∃ d ∈ c :: l, d ≠ 0 := ⟨_, List.getLast_mem (List.cons_ne_nil _ _), h (List.cons_ne_nil _ _)⟩
/-- rows of no worth but 0 -/
theorem ev_nought {l : List Rat} (h : ∀ x, ev l x = 0) : ∀ c ∈ l, c = 0 := fun c hc => Classical.byContradiction fun z => by
  obtain ⟨X, e, h1, h2, h3⟩ := ev_far l ⟨c, hc, z⟩
  have := h3 X Rat.le_refl
  rw [h] at this
  grind
def ladd : List Rat → List Rat → List Rat
  | [], b => b
  | a, [] => a
  | x :: a, y :: b => (x + y) :: ladd a b
theorem ev_ladd : ∀ (a b : List Rat) (x : Rat), ev (ladd a b) x = ev a x + ev b x
  | [], b, x => by
    show ev b x = 0 + ev b x
    grind
  | c :: a, [], x => by
    show ev (c :: a) x = ev (c :: a) x + 0
    grind
  | c :: a, d :: b, x => by
    show (c + d) + x * ev (ladd a b) x = (c + x * ev a x) + (d + x * ev b x)
    rw [ev_ladd a b x]
    grind
theorem ev_scale (k : Rat) (a : List Rat) (x : Rat) : ev (a.map (k * ·)) x = k * ev a x := by
  induction a with
  | nil => show (0 : Rat) = k * 0; grind
  | cons c a ih =>
    show k * c + x * ev (a.map (k * ·)) x = k * (c + x * ev a x)
    rw [ih]
    grind
theorem ladd_nil (a : List Rat) : ladd a [] = a := by cases a <;> rfl
/-- two rows of the same worths are the same -/
theorem ev_inj : ∀ {a b : List Rat}, Tr a → Tr b → (∀ x, ev a x = ev b x) → a = b := by
  have key : ∀ (a b : List Rat), Tr a → Tr b → (∀ c ∈ ladd a (b.map ((-1 : Rat) * ·)), c = 0) → a = b := by
    intro a
    induction a with
    | nil =>
      intro b _ hb h
      cases b with
      | nil => rfl
      | cons d b =>
        exfalso
        obtain ⟨c, hc, hne⟩ := tr_some hb
        have := h ((-1 : Rat) * c) (List.mem_map.mpr ⟨c, hc, rfl⟩)
        grind
    | cons c a ih =>
      intro b ha hb h
      cases b with
      | nil =>
        exfalso
        obtain ⟨d, hd, hne⟩ := tr_some ha
        exact hne (h d (by show d ∈ ladd (c :: a) []; rw [ladd_nil]; exact hd))
      | cons d b =>
        have h1 : c + -1 * d = 0 := h _ List.mem_cons_self
        have h2 := ih b ha.tail hb.tail fun e he => h e (List.mem_cons_of_mem _ he)
        rw [h2]
        have : c = d := by grind
        rw [this]
  intro a b ha hb h
  refine key a b ha hb (ev_nought fun x => ?_)
  rw [ev_ladd, ev_scale, h]
  grind
theorem ev_append (a b : List Rat) (x : Rat) : ev (a ++ b) x = ev a x + x ^ a.length * ev b x := by
  induction a with
  | nil => show ev b x = 0 + x ^ 0 * ev b x; rw [Rat.pow_zero]; grind
  | cons c a ih =>
    show c + x * ev (a ++ b) x = (c + x * ev a x) + x ^ (a.length + 1) * ev b x
    rw [ih, Rat.pow_succ]
    grind
theorem ev_set {l : List Rat} {k : Nat} (h : k < l.length) (v x : Rat) : ev (l.set k (l[k] + v)) x = ev l x + v * x ^ k := by
  induction l generalizing k with
  | nil => exact absurd h (Nat.not_lt_zero _)
  | cons c l ih =>
    cases k with
    | zero =>
      show (c + v) + x * ev l x = (c + x * ev l x) + v * x ^ 0
      rw [Rat.pow_zero]
      grind
    | succ k =>
      have hk : k < l.length := Nat.lt_of_succ_lt_succ h
      show c + x * ev (l.set k (l[k] + v)) x = (c + x * ev l x) + v * x ^ (k + 1)
      rw [ih hk, Rat.pow_succ]
      grind
theorem ev_replicate0 (n : Nat) (x : Rat) : ev (List.replicate n 0) x = 0 := ev_zeros (fun c hc => (List.mem_replicate.mp hc).2) x
end Vx
namespace Vx
/-- i is below 2 ^ b -/
def Bz (b : Nat) (i : Int) : Prop := i.natAbs < 2 ^ b
theorem Bz.mono {b c : Nat} {i : Int} (h : Bz b i) (le : b ≤ c) : Bz c i := bz_mono h le
theorem Bz.mul {a b : Nat} {i j : Int} (hi : Bz a i) (hj : Bz b j) : Bz (a + b) (i * j) := bz_mul hi hj
theorem Bz.add {a : Nat} {i j : Int} (hi : Bz a i) (hj : Bz a j) : Bz (a + 1) (i + j) := bz_add hi hj
theorem Bz.sub {a : Nat} {i j : Int} (hi : Bz a i) (hj : Bz a j) : Bz (a + 1) (i - j) := bz_sub hi hj
theorem Qz.n {b : Nat} {q : Rat} (h : Qz b q) : Bz b q.num := h.1
theorem Qz.dd {b : Nat} {q : Rat} (h : Qz b q) : Bz b (q.den : Int) := h.2
theorem Qz.of_div {n m : Int} {b : Nat} (h1 : Bz b n) (h2 : Bz b m) (h0 : m ≠ 0) : Qz b (Rat.divInt n m) := qz_div h1 h2 h0
end Vx
namespace Vx
theorem rpow_add (x : Rat) (i j : Nat) : x ^ (i + j) = x ^ i * x ^ j := by
  induction j with
  | zero => rw [Nat.add_zero, Rat.pow_zero]; grind
  | succ j ih => rw [← Nat.add_assoc, Rat.pow_succ, ih, Rat.pow_succ]; grind
end Vx
namespace Vx
open PySem PySem.Spec PyProof.Rows L2
/-- // by any divisor other than 0 below 2 ^ 9000 -/
def CDivX (_ j : Int) : Prop := j ≠ 0 ∧ j.natAbs.log2 < 9000
theorem cdivx {i j : Int} {b : Nat} (h0 : j ≠ 0) (h : Bz b j) (hb : b ≤ 9000) : CDivX i j := by
  refine ⟨h0, ?_⟩
  exact (Nat.log2_lt (by omega)).mpr (Nat.lt_of_lt_of_le h (Nat.pow_le_pow_right (by decide) hb))
theorem cmulx {i j : Int} {a b : Nat} (ha : Bz a i) (hb : Bz b j) (h : a + b ≤ 100000) : CMulX i j := mulx_ok ha hb (by omega)
section
variable {X : Cx}
theorem op_fdivX : OpR X (binaryOp .FloorDiv) (rI CDivX fun i j => .int (i.fdiv j)) := opI fun i j _ _ _ _ _ hc q =>
  floordiv_int hc.1 q (.inl (PyProof.noPylong_of_log2 hc.2))
/-- math.lcm of two ints below 2 ^ 9000 -/
def rLcm : List V → Hp → VK → Prop := fun vs H Q => ∃ a b : Int, vs = [.int a, .int b] ∧ Bz 9000 a ∧ Bz 9000 b ∧ Q (.int ((Nat.lcm a.natAbs b.natAbs : Nat) : Int)) H
theorem log_lt {n b : Nat} (hb : 0 < b) (h : n < 2 ^ b) : n.log2 < b := by
  by_cases h0 : n = 0
  · subst h0
    rw [Nat.log2_zero]
    exact hb
  · exact (Nat.log2_lt h0).mpr h
theorem cr_lcm : CallR X (.builtin "math.lcm") rLcm := by
  intro pins s σ H vs us Q I r h
  obtain ⟨a, b, rfl, ha, hb, q⟩ := h
  obtain ⟨t, u, rfl⟩ := Vals.int2 r
  have p1 : 1 < 2 ^ 9000 := Nat.one_lt_two_pow (by decide)
  have h1 : (max 1 a.natAbs).log2 < 9000 := log_lt (by decide) (by
    rcases Nat.le_total 1 a.natAbs with z | z
    · rw [Nat.max_eq_right z]; exact ha
    · rw [Nat.max_eq_left z]; exact p1)
  have h2 : (max a.natAbs b.natAbs).log2 < 9000 := log_lt (by decide) (by
    rcases Nat.le_total a.natAbs b.natAbs with z | z
    · rw [Nat.max_eq_right z]; exact hb
    · rw [Nat.max_eq_left z]; exact ha)
  have e1 : (Nat.lcm 1 a.natAbs).lcm b.natAbs = Nat.lcm a.natAbs b.natAbs := by rw [Nat.lcm_one_left]
  have hsz : ((((Nat.lcm 1 a.natAbs).lcm b.natAbs : Nat) : Int)).natAbs.log2 < bitsLine := by
    rw [e1, Int.natAbs_natCast]
    have hl : Nat.lcm a.natAbs b.natAbs ≤ a.natAbs * b.natAbs := by
      unfold Nat.lcm
      exact Nat.div_le_self _ _
    have hm : Nat.lcm a.natAbs b.natAbs < 2 ^ 18000 := by
      rw [show (18000 : Nat) = 9000 + 9000 from rfl, Nat.pow_add]
      exact Nat.lt_of_le_of_lt hl (Nat.mul_lt_mul'' ha hb)
    have := log_lt (by decide) hm
    rw [bitsLine_eq]
    omega
  refine PySem.call_function_meets PySem.W.MGF.kind_lcm PySem.W.MGF.plain_lcm PySem.W.MGF.entry_lcm (PySem.W.MGF.args_lcm _ _) (PySem.W.mg_run_lcm a t b u (by omega) (by omega) hsz).meets ?_
  rw [e1]
  exact ⟨.int _, H, I.tok _, ⟨_, rfl⟩, q⟩
/-- type(x), x a tuple -/
theorem call_typeT : CallR X (.type "type") (fun vs H Q => ∃ a xs, vs = [.ref a] ∧ SqT X.K H a xs ∧ Q (.ty "tuple") H) := by
  intro pins s σ H xs us Q I r h
  obtain ⟨a, ys, rfl, hq, q⟩ := h
  obtain ⟨u, rfl, rx⟩ := vals1 r
  cases rx
  obtain ⟨its, rv, p, _⟩ := I.tuple hq
  exact call_type_of p.typeIs (by decide +kernel) ⟨.ty "tuple", H, I, rfl, q⟩
/-- type(x), x an int -/
theorem call_typeI : CallR X (.type "type") (fun vs H Q => ∃ i, vs = [.int i] ∧ Q (.ty "int") H) := by
  intro pins s σ H xs us Q I r h
  obtain ⟨i, rfl, q⟩ := h
  obtain ⟨u, rfl, rx⟩ := vals1 r
  obtain ⟨t, rfl⟩ := rx
  exact call_type_of (typeIs_int _ i t) (by decide +kernel) ⟨.ty "int", H, I, rfl, q⟩
end

theorem tuple_mul1 (l : Addr) (items : Array Value) (n : Nat) (dd : Option Addr) (sl : Array (Option Value)) (u : Tok) :
    Meets (Builtin.«tuple.__mul__» ⟨[.ref l, .int 1 u], []⟩) (fun _ R s => s.heap.get? l = some { cls := .type "tuple", dict := dd, data := .seq items n, slots := sl } ∧ R (.ok (.ret (Value.ref l))) s) :=
  .of_wp fun prog w A R s h => by
    obtain ⟨hp, g, d, tk, os⟩ := s
    obtain ⟨hl, h⟩ := h
    have f1 := AutoSeq1.idx_int
    have c1 : (items.isEmpty || ((1 : Int) == 1)) = true := by simp
    wp_walk using wpAny_loadPart' hl
    repeat (first
      | (refine wpAny_ite_true (decide_eq_true (by rw [c1])) ?_; wp_walk using wpAny_loadPart' hl))
    exact ⟨_, rfl, h⟩
theorem tuple_mul0 (l : Addr) (items : Array Value) (n : Nat) (dd : Option Addr) (sl : Array (Option Value)) (u : Tok) (hne : items.isEmpty = false) :
    Meets (Builtin.«tuple.__mul__» ⟨[.ref l, .int 0 u], []⟩) (fun _ R s => s.heap.get? l = some { cls := .type "tuple", dict := dd, data := .seq items n, slots := sl } ∧ R (.ok (.ret (Value.ref s.heap.objs.size))) { s with heap := s.heap.push { cls := Value.type "tuple", data := Data.seq #[] }, toks := s.toks }) :=
  .of_wp fun prog w A R s h => by
    obtain ⟨hp, g, d, tk, os⟩ := s
    obtain ⟨hl, h⟩ := h
    have f1 := AutoSeq1.idx_int
    have c1 : (items.isEmpty || ((0 : Int) == 1)) = false := by rw [hne]; decide
    wp_walk using wpAny_loadPart' hl
    repeat (first
      | (refine wpAny_ite_false (decide_eq_false (by rw [c1]; exact Bool.false_ne_true)) ?_; wp_walk using wpAny_loadPart' hl)
      | (refine wpAny_ite_true (decide_eq_true (by simp)) ?_; wp_walk using wpAny_loadPart' hl))
    exact ⟨_, rfl, h⟩

/-- tuple * int, from 0 on -/
def rRepA (K : PySem.W.Frag) : R2 := fun x y H Q => ∃ l k xs, x = .ref l ∧ y = .int k ∧ SqT K H l xs ∧ xs ≠ [] ∧ 0 ≤ k ∧ k ≤ 1000 ∧ xs.length ≤ 1000 ∧ (k = 1 → Q (.ref l) H) ∧ (k ≠ 1 → ∀ p, H p = none → Q (.ref p) (upd H p (.tup (List.replicate k.toNat xs).flatten)))
theorem op_repA {X : Cx} : OpR X (binaryOp .Mult) (rRepA X.K) := by
  intro pins s σ H x y v u Q I rx ry h
  obtain ⟨l, k, xs, rfl, rfl, hT, hne, h1, h2, hz, q1, q2⟩ := h
  by_cases hk2 : 2 ≤ k
  · exact op_repT pins s σ H _ _ v u Q I rx ry ⟨l, k, xs, rfl, rfl, hT, hne, hk2, h2, hz, q2 (by omega)⟩
  cases rx
  obtain ⟨t, rfl⟩ := ry
  obtain ⟨its, r, ⟨⟨cls, dd, data, sl⟩, ho, hc, n, hd⟩, hs⟩ := I.tuple hT
  simp only at hc hd
  subst hc hd
  have hle : its.length = xs.length := r.length.symm
  have hn : its ≠ [] := fun e => hne (by
    rw [e] at hle
    exact List.eq_nil_of_length_eq_zero hle.symm)
  have hi : its.toArray.isEmpty = false := by
    cases its with
    | nil => exact absurd rfl hn
    | cons a b => rfl
  have hk : k = 0 ∨ k = 1 := by omega
  rcases hk with rfl | rfl
  · refine wpAny_binaryOp_repeat_ref (T := "tuple") (U := "int") (by decide) ⟨_, ho, rfl⟩ (fun s' => typeIs_int s' 0 t) noFill_tuple_mul F.fills_int_mul F.slot_int_rmul repeat_tuple F.slot_int_index.lookup
      (call_meets F.slot_int_rmul (typeIs_int s 0 t) F.entry_int_rmul (F.args_int_rmul_2 _ _) (int_rmul_tuple 0 t l its.toArray n dd sl)
        ⟨ho, rfl, ⟨_, ho, rfl⟩, call_meets F.slot_tuple_mul ⟨_, ho, rfl⟩ F.entry_tuple_mul (F.args_tuple_mul_2 _ _) (tuple_mul0 l its.toArray n dd sl t hi) ⟨ho, ?_⟩⟩)
    refine ⟨.ref s.heap.objs.size, _, I.laid (t' := s.toks) (o := .tup []) (fun b ob q => Heap.get?_push_of_some _ q) (Nat.le_refl _) ?_, rfl, q2 (by decide) _ (I.hok.fresh (Nat.le_refl _))⟩
    exact ⟨Nat.zero_le _, [], .nil, IsTup.new _ _⟩
  · exact wpAny_binaryOp_repeat_ref (T := "tuple") (U := "int") (by decide) ⟨_, ho, rfl⟩ (fun s' => typeIs_int s' 1 t) noFill_tuple_mul F.fills_int_mul F.slot_int_rmul repeat_tuple F.slot_int_index.lookup
      (call_meets F.slot_int_rmul (typeIs_int s 1 t) F.entry_int_rmul (F.args_int_rmul_2 _ _) (int_rmul_tuple 1 t l its.toArray n dd sl)
        ⟨ho, rfl, ⟨_, ho, rfl⟩, call_meets F.slot_tuple_mul ⟨_, ho, rfl⟩ F.entry_tuple_mul (F.args_tuple_mul_2 _ _) (tuple_mul1 l its.toArray n dd sl t) ⟨ho, ⟨.ref l, H, I, rfl, q1 rfl⟩⟩⟩)
theorem sz_of {n : Nat} (m : Nat) (h : n = m) (hm : m ≤ 1000) : n ≤ sizeLine := by
  rw [sizeLine_eq]
  omega
theorem tif {c : Prop} [Decidable c] {A B : Prop} (h1 : c → A) (h2 : ¬ c → B) : if decide c = true then A else B := by
  by_cases h : c
  · rw [decide_eq_true h, if_pos rfl]
    exact h1 h
  · rw [decide_eq_false h, if_neg Bool.false_ne_true]
    exact h2 h
/-! ### what stays -/
/-- all but lists stays -/
def SameT (H H' : Hp) : Prop := ∀ b o, H b = some o → (∀ xs, o ≠ .lst xs) → H' b = some o
theorem SameT.refl (H : Hp) : SameT H H := fun _ _ e _ => e
theorem SameT.trans {H H1 H2 : Hp} (a : SameT H H1) (b : SameT H1 H2) : SameT H H2 := fun c o e n => b c o (a c o e n) n
theorem same_t {H H' : Hp} (e : Same H H') : SameT H H' := fun b o h _ => e b o h
theorem samet_lst {H : Hp} {D : Addr} {xs ys : List V} (h : H D = some (.lst xs)) : SameT H (upd H D (.lst ys)) := fun b o e n => by
  have : b ≠ D := fun z => by
    rw [z, h] at e
    cases e
    exact n _ rfl
  rw [upd_ne this]
  exact e
theorem samet_seqT {K : PySem.W.Frag} {H H' : Hp} {a : Addr} {xs : List V} (e : SameT H H') (h : SqT K H a xs) : SqT K H' a xs := by
  rcases h with (h | ⟨o, h⟩) | h
  · exact Or.inl (Or.inl (e _ _ h fun _ z => by cases z))
  · exact Or.inl (Or.inr ⟨o, e _ _ h fun _ z => by cases z⟩)
  · exact Or.inr h
/-! ### fractions, rows -/
/-- v is the fraction q -/
def FrT (K : PySem.W.Frag) (H : Hp) (v : V) (q : Rat) : Prop := ∃ a, v = .ref a ∧ SqT K H a [.int q.num, .int q.den]
theorem FrT.mono {K : PySem.W.Frag} {H H' : Hp} {v : V} {q : Rat} (e : SameT H H') (h : FrT K H v q) : FrT K H' v q := by
  obtain ⟨a, r, s⟩ := h
  exact ⟨a, r, samet_seqT e s⟩
/-- things of a list, one by one -/
inductive Al (R : V → Rat → Prop) : List V → List Rat → Prop
  | nil : Al R [] []
  | cons {v : V} {q : Rat} {vs : List V} {qs : List Rat} : R v q → Al R vs qs → Al R (v :: vs) (q :: qs)
theorem Al.length {R : V → Rat → Prop} : ∀ {vs : List V} {qs : List Rat}, Al R vs qs → vs.length = qs.length
  | _, _, .nil => rfl
  | _, _, .cons _ t => by rw [List.length_cons, List.length_cons, t.length]
theorem Al.mono {R S : V → Rat → Prop} (f : ∀ (v : V) (q : Rat), R v q → S v q) : ∀ {vs : List V} {qs : List Rat}, Al R vs qs → Al S vs qs
  | _, _, .nil => .nil
  | _, _, .cons h t => .cons (f _ _ h) (t.mono f)
theorem Al.get {R : V → Rat → Prop} {vs : List V} {qs : List Rat} (h : Al R vs qs) {i : Nat} {v : V} (e : vs[i]? = some v) : ∃ q, qs[i]? = some q ∧ R v q := by
  induction h generalizing i with
  | nil => simp at e
  | cons h t ih =>
    cases i with
    | zero =>
      simp at e
      subst e
      exact ⟨_, rfl, h⟩
    | succ i => exact ih (by simpa using e)
theorem Al.get' {R : V → Rat → Prop} {vs : List V} {qs : List Rat} (h : Al R vs qs) {i : Nat} {q : Rat} (e : qs[i]? = some q) : ∃ v, vs[i]? = some v ∧ R v q := by
  induction h generalizing i with
  | nil => simp at e
  | cons h t ih =>
    cases i with
    | zero =>
      simp at e
      subst e
      exact ⟨_, rfl, h⟩
    | succ i => exact ih (by simpa using e)
theorem Al.of {R : V → Rat → Prop} : ∀ {vs : List V} {qs : List Rat}, vs.length = qs.length → (∀ (i : Nat) (v : V) (q : Rat), vs[i]? = some v → qs[i]? = some q → R v q) → Al R vs qs
  | [], [], _, _ => .nil
  | [], _ :: _, h, _ => by cases h
  | _ :: _, [], h, _ => by cases h
  | v :: vs, q :: qs, h, f => .cons (f 0 v q rfl rfl) (Al.of (by simpa using h) fun i a b e1 e2 => f (i + 1) a b (by simpa using e1) (by simpa using e2))
theorem Al.append {R : V → Rat → Prop} {us vs : List V} {ps qs : List Rat} (h : Al R us ps) (t : Al R vs qs) : Al R (us ++ vs) (ps ++ qs) := by
  induction h with
  | nil => exact t
  | cons h _ ih => exact .cons h ih
theorem Al.take {R : V → Rat → Prop} {vs : List V} {qs : List Rat} (h : Al R vs qs) (n : Nat) : Al R (vs.take n) (qs.take n) := by
  induction h generalizing n with
  | nil => simp; exact .nil
  | cons h t ih =>
    cases n with
    | zero => exact .nil
    | succ n => exact .cons h (ih n)
theorem Al.drop {R : V → Rat → Prop} {vs : List V} {qs : List Rat} (h : Al R vs qs) (n : Nat) : Al R (vs.drop n) (qs.drop n) := by
  induction h generalizing n with
  | nil => simp; exact .nil
  | cons h t ih =>
    cases n with
    | zero => exact .cons h t
    | succ n => exact ih n
abbrev FrA (K : PySem.W.Frag) (H : Hp) : List V → List Rat → Prop := Al (FrT K H)
theorem fra_mono {K : PySem.W.Frag} {H H' : Hp} {vs : List V} {qs : List Rat} (e : SameT H H') (h : FrA K H vs qs) : FrA K H' vs qs := h.mono fun _ _ => FrT.mono e
/-- v is the tuple of the fractions qs -/
def RwT (K : PySem.W.Frag) (H : Hp) (v : V) (qs : List Rat) : Prop := ∃ a vs, v = .ref a ∧ SqT K H a vs ∧ FrA K H vs qs
theorem RwT.mono {K : PySem.W.Frag} {H H' : Hp} {v : V} {qs : List Rat} (e : SameT H H') (h : RwT K H v qs) : RwT K H' v qs := by
  obtain ⟨a, vs, r, s, f⟩ := h
  exact ⟨a, vs, r, samet_seqT e s, fra_mono e f⟩
/-- the data of a fraction, of a row -/
def dFr (q : Rat) : PyData := .tuple [.int q.num, .int q.den]
def dRw (qs : List Rat) : PyData := .tuple (qs.map dFr)
theorem rp_fr {K : PySem.W.Frag} {H : Hp} {v : V} {q : Rat} (h : FrT K H v q) : Rp K H v (dFr q) := by
  obtain ⟨a, rfl, s⟩ := h
  exact .tup s (.cons (.int _) (.cons (.int _) .nil))
theorem rpa_fr {K : PySem.W.Frag} {H : Hp} : ∀ {vs : List V} {qs : List Rat}, FrA K H vs qs → RpA K H vs (qs.map dFr)
  | _, _, .nil => .nil
  | _, _, .cons h t => .cons (rp_fr h) (rpa_fr t)
theorem rp_rw {K : PySem.W.Frag} {H : Hp} {v : V} {qs : List Rat} (h : RwT K H v qs) : Rp K H v (dRw qs) := by
  obtain ⟨a, vs, rfl, s, f⟩ := h
  exact .tup s (rpa_fr f)
/-! ### a comprehension, item by item -/
theorem lc_map {J : It} {n : Nat} {G : Hp → Prop} {Y : Nat → Hp → V → Hp → Prop} (w : Walk J n G Y) {g : TG} {te : TE} {vs : List Nat} {σ : L2.St} {H1 : Hp} {D : Addr} {Qd : Hp → Prop}
    (hD : H1 D = none) (hn : n < sizeLine) (Pa : Nat → Hp → V → Prop) (stab : ∀ i H H' v, SameT H H' → Pa i H v → Pa i H' v) (hG : ∀ H, Same H1 H → G H)
    (hs : ∀ i x H H', i < n → Same H1 H → (∃ xs, H D = some (.lst xs)) → Y i H x H' → ∀ Fin : V → Hp → Prop, (∀ y H4, Same H H4 → Pa i H4 y → Fin y H4) →
      g x (wipe σ vs) H' fun σ2 H2 => wipe σ2 vs = wipe σ vs ∧ te σ2 H2 Fin)
    (hd : ∀ H acc, Same H1 H → H D = some (.lst acc) → acc.length = n → (∀ i y, acc[i]? = some y → Pa i H y) → Qd H) :
    ∃ W : Nat → Nat → Hp → Prop, (∃ m, W 0 m (upd H1 D (.lst []))) ∧ ∀ i m H, W i m H →
      (J.stop i H ∧ Qd H) ∨ (J.go i H ∧ ∃ Nx : Hp → Prop, (∀ H', Nx H' → ∃ m', m' < m ∧ W (i + 1) m' H') ∧ ∀ x H', J.yld i H x H' → g x (wipe σ vs) H' fun σ2 H2 => wipe σ2 vs = wipe σ vs ∧ tYes σ2 H2 fun b H3 =>
        if b = true then te σ2 H3 fun y H4 => ∃ acc, H4 D = some (.lst acc) ∧ acc.length < sizeLine ∧ Nx (upd H4 D (.lst (acc ++ [y]))) else Nx H3) := by
  refine lc_it w (fun i H => Same H1 H ∧ ∃ acc, H D = some (.lst acc) ∧ acc.length = i ∧ ∀ j y, acc[j]? = some y → Pa j H y) ⟨same_new hD, [], upd_same, rfl, fun j y e => by simp at e⟩ (fun i H _ p => hG H p.1) ?_ ?_
  · rintro i x H H' hi ⟨s0, acc, e0, l0, p0⟩ hy
    have hs' := hs i x H H' hi s0 ⟨_, e0⟩ hy (fun y H4 => ∃ acc, H4 D = some (.lst acc) ∧ acc.length < sizeLine ∧ (Same H1 (upd H4 D (.lst (acc ++ [y]))) ∧ ∃ acc', upd H4 D (.lst (acc ++ [y])) D = some (.lst acc') ∧ acc'.length = i + 1 ∧ ∀ j y', acc'[j]? = some y' → Pa j (upd H4 D (.lst (acc ++ [y]))) y')) ?_
    · have e1 : (fun (σ2 : L2.St) (H2 : Hp) => wipe σ2 vs = wipe σ vs ∧ tYes σ2 H2 fun b H3 => if b = true then te σ2 H3 (fun y H4 => ∃ acc, H4 D = some (.lst acc) ∧ acc.length < sizeLine ∧ (Same H1 (upd H4 D (.lst (acc ++ [y]))) ∧ ∃ acc', upd H4 D (.lst (acc ++ [y])) D = some (.lst acc') ∧ acc'.length = i + 1 ∧ ∀ j y', acc'[j]? = some y' → Pa j (upd H4 D (.lst (acc ++ [y]))) y'))
            else (Same H1 H3 ∧ ∃ acc, H3 D = some (.lst acc) ∧ acc.length = i + 1 ∧ ∀ j y, acc[j]? = some y → Pa j H3 y)) = fun σ2 H2 => wipe σ2 vs = wipe σ vs ∧ te σ2 H2 (fun y H4 => ∃ acc, H4 D = some (.lst acc) ∧ acc.length < sizeLine ∧ (Same H1 (upd H4 D (.lst (acc ++ [y]))) ∧ ∃ acc', upd H4 D (.lst (acc ++ [y])) D = some (.lst acc') ∧ acc'.length = i + 1 ∧ ∀ j y', acc'[j]? = some y' → Pa j (upd H4 D (.lst (acc ++ [y]))) y')) := by
        funext σ2 H2
        unfold tYes
        dsimp only []
        rw [if_pos rfl]
      rw [e1]
      exact hs'
    · intro y H4 s4 p4
      have e4 : H4 D = some (.lst acc) := s4 _ _ e0
      refine ⟨acc, e4, by omega, fun b o e => ?_, acc ++ [y], upd_same, by rw [List.length_append, l0] <;> rfl, fun j y' ej => ?_⟩
      · have : b ≠ D := ne_of_none e hD
        rw [upd_ne this]
        exact s4 _ _ (s0 _ _ e)
      · rcases Nat.lt_or_ge j acc.length with hj | hj
        · rw [List.getElem?_append_left hj] at ej
          exact stab _ _ _ _ ((same_t s4).trans (samet_lst e4)) (p0 j y' ej)
        · rw [List.getElem?_append_right hj] at ej
          have hj0 : j - acc.length = 0 := by
            rcases Nat.eq_zero_or_pos (j - acc.length) with z | z
            · exact z
            · rw [List.getElem?_eq_none (show [y].length ≤ j - acc.length from z)] at ej
              cases ej
          rw [hj0] at ej
          have ey : y = y' := by simpa using ej
          have ej2 : j = i := by omega
          rw [← ey, ej2]
          exact stab _ _ _ _ (samet_lst e4) p4
  · rintro H ⟨s0, acc, e0, l0, p0⟩
    exact hd H acc s0 e0 l0 p0
end Vx
namespace Vx
open PySem PySem.Spec PyProof.Rows L2
section
variable {X : Cx}
def rGetL (K : PySem.W.Frag) : V → V → Hp → VK → Prop := fun x y H Q => ∃ p xs i v, x = .ref p ∧ y = .int i ∧ SqL K H p xs ∧ 0 ≤ i ∧ xs[i.toNat]? = some v ∧ Q v H
theorem get_list : PGet X (rGetL X.K) := by
  intro pins s σ H x y v u Q I rx ry h
  obtain ⟨p, xs, i, z, rfl, rfl, hq, h0, he, q⟩ := h
  cases rx
  obtain ⟨t, rfl⟩ := ry
  obtain ⟨its, r, pl, hz⟩ := I.list hq
  obtain ⟨w, ew, rw'⟩ := r.get he
  have hl := r.length
  have hn := line63
  have hi := (List.getElem?_eq_some_iff.mp he).1
  have fin : EP X pins σ Q w s := ⟨z, H, I, rw', q⟩
  exact wpAny_getItem_list pl.isList h0 (by omega) (by simpa using ew) fin
/-- how the def's two parameters bind by the names k1, k2, in the other order -/
def Kw2 (fd : FuncData) (ps : List Str) (k1 k2 : Str) : Prop := ∀ (s : Shared) (u v : Value), BindsTo s fd ⟨[], [(k1, u), (k2, v)]⟩ (ps.zip [v, u])
structure Dk (P : Program) (w : World) (K : PySem.W.Frag) (mg : Str → Option Value) (base : Heap) (x : Str) (k : Nat) (ps : List Str) (k1 k2 : Str) (sp : Sp) : Prop where
  ex : ∃ f fd, FnOk P w K mg base CX0 k f fd ps sp ∧ mg x = some (.ref f) ∧ PySem.W.keepIn K (.ref f) = true ∧ Binds K fd ps [] ∧ Kw2 fd ps k1 k2
theorem Dk.df {P : Program} {w : World} {K : PySem.W.Frag} {mg : Str → Option Value} {base : Heap} {x : Str} {k : Nat} {ps : List Str} {k1 k2 : Str} {sp : Sp} (D : Dk P w K mg base x k ps k1 k2 sp) : Df P w K mg base x k ps sp := by
  obtain ⟨f, fd, F, a, b, c, _⟩ := D.ex
  exact ⟨f, fd, F, a, b, c⟩
def tKw2 (sp : Sp) (tk : TA) : TE := fun σ H Q => tk σ H fun zs H2 => ∃ a b, zs = [a, b] ∧ sp [b, a] H2 Q E0
variable {k : Nat} {ps : List Str} {sp : Sp} {x k1 k2 : Str} {p pos p1 p2 : Pos} {e1 e2 : Expr} {tk : TA}
theorem pe_kw2 (D : Dk X.prog X.w X.K X.mg X.base x k ps k1 k2 sp) (hr : Room k X.A) (hg : Gl X x) (hkw : PK X [⟨some k1, e1, p1⟩, ⟨some k2, e2, p2⟩] tk)
    (hdb : (x == ("__debug__" : Str)) = false := by decide)
    (hall : (backToKw pos (keywordEach [⟨some k1, e1, p1⟩, ⟨some k2, e2, p2⟩] X.env)).all (·.1.isSome) = true := by rfl)
    (hks : (backToKw pos (keywordEach [⟨some k1, e1, p1⟩, ⟨some k2, e2, p2⟩] X.env)).filterMap (·.1) = [k1, k2] := by rfl)
    (hpl : ((backTo pos (starEach [] X.env)).any (·.1) || (backToKw pos (keywordEach [⟨some k1, e1, p1⟩, ⟨some k2, e2, p2⟩] X.env)).any (·.1.isNone)) = false := by rfl) :
    PE X (.Call (.Name x p) [] [⟨some k1, e1, p1⟩, ⟨some k2, e2, p2⟩] pos) (tKw2 sp tk) := by
  obtain ⟨f, fd, F, hm, hk, _, hb⟩ := D.ex
  refine ⟨fun pins s σ H Q I h => ?_⟩
  refine wpAny_Call_Name_kw (ld_glob I hg hm ?_ hdb)
  refine PySem.W.callWith_KW0 (h₀ := X.base) I.ok.mod.kin hk hall ?_ hpl
  refine thn (hkw.run pos pins s σ H _ I h) fun ws s2 ⟨zs, H2, I2, rz, a, b, ez, q2⟩ => ⟨I2.kIn, ?_⟩
  subst ez
  rw [hks]
  obtain ⟨u, v, rfl, ra, rb⟩ := vals2 rz
  refine wpAny_call (codeAny_mono (F.run X.A X.stack s2 H2 ⟨[], [(k1, u), (k2, v)]⟩ [v, u] [b, a] Q E0 hr I2.env0 (hb s2 u v) (.cons rb (.cons ra .nil)) q2) fun r s' hq => ?_)
  cases r with
  | error e => exact pass0 pins σ H2 s2 e s' I2 hq
  | ok fl =>
    cases fl with
    | ret u => exact I2.after hq
    | next => exact False.elim hq
    | brk => exact False.elim hq
    | cont => exact False.elim hq
end
end Vx
namespace Vx
open PySem PySem.Spec PyProof.Rows L2
theorem cutV_take {xs : List V} {m : Nat} (h : m ≤ xs.length) : cutV xs none (some (m : Int)) = xs.take m := by
  unfold cutV
  rw [HT.sIx_none, HT.sIx_nat, Nat.min_eq_left h, List.drop_zero, Nat.sub_zero]
theorem eqv_fr (p q : Rat) : PyData.eqv (dFr p) (dFr q) = decide (p = q) := by
  unfold dFr
  simp only [PyData.eqv, PyData.eqvAll]
  by_cases h : p = q
  · subst h
    simp
  · rw [decide_eq_false h]
    by_cases h1 : p.num = q.num
    · have h2 : p.den ≠ q.den := fun z => h (Rat.ext h1 z)
      have h3 : ((p.den : Int) == (q.den : Int)) = false := beq_eq_false_iff_ne.mpr (by omega)
      rw [h3]
      simp
    · rw [beq_eq_false_iff_ne.mpr h1]
      simp
theorem shaped_fr (q : Rat) : SeqAt.shaped (dFr q) = true := by
  unfold dFr SeqAt.shaped
  simp [PyData.canLay0, PyData.depth, PyData.canLayAll0, PyData.depthAll]
theorem dp_fr {K : PySem.W.Frag} {H : Hp} {v : V} {q : Rat} (h : FrT K H v q) : Dp K H v (dFr q) := by
  obtain ⟨a, rfl, s⟩ := h
  exact .tup s (.cons (.int _) (.cons (.int _) .nil))
/-- what rEqD asks of two fractions -/
theorem rEqD_fr {K : PySem.W.Frag} {H : Hp} {x y : V} {p q : Rat} {Q : VK} (hx : FrT K H x p) (hy : FrT K H y q) (h : Q (.bl (decide (p = q))) H) : rEqD K x y H Q :=
  ⟨dFr p, dFr q, dp_fr hx, dp_fr hy, shaped_fr p, shaped_fr q, by rw [eqv_fr]; exact h⟩
theorem rNeD_fr {K : PySem.W.Frag} {H : Hp} {x y : V} {p q : Rat} {Q : VK} (hx : FrT K H x p) (hy : FrT K H y q) (h : Q (.bl (!decide (p = q))) H) : rNeD K x y H Q :=
  ⟨dFr p, dFr q, dp_fr hx, dp_fr hy, shaped_fr p, shaped_fr q, by rw [eqv_fr]; exact h⟩
theorem tr_take_of {qs : List Rat} {m : Nat} (h0 : 0 < m) (hm : m ≤ qs.length) (hne : qs[m - 1]'(by omega) ≠ 0) : Tr (qs.take m) := fun hn => by
  have e : (qs.take m).getLast hn = qs[m - 1]'(by omega) := by
    rw [List.getLast_eq_getElem]
    simp only [List.length_take, List.getElem_take, Nat.min_eq_left hm]
  rw [e]
  exact hne
theorem ev_take_drop (qs : List Rat) (m : Nat) (h : ∀ c ∈ qs.drop m, c = 0) (x : Rat) : ev (qs.take m) x = ev qs x := by
  have := ev_append (qs.take m) (qs.drop m) x
  rw [List.take_append_drop, ev_zeros h] at this
  grind
end Vx
namespace Vx
open PySem PySem.Spec PyProof.Rows L2
def Qs (b : Nat) (qs : List Rat) : Prop := ∀ c ∈ qs, Qz b c
theorem Qs.mono {b c : Nat} {qs : List Rat} (h : Qs b qs) (le : b ≤ c) : Qs c qs := fun x hx => (h x hx).mono le
theorem Qs.take {b : Nat} {qs : List Rat} (h : Qs b qs) (n : Nat) : Qs b (qs.take n) := fun c hc => h c (List.mem_of_mem_take hc)
theorem lcm_bz {D : Int} {d a b : Nat} (h0 : 0 < D) (h1 : Bz a D) (h2 : d < 2 ^ b) : Bz (a + b) ((Nat.lcm D.natAbs (d : Int).natAbs : Nat) : Int) := by
  unfold Bz at *
  rw [Int.natAbs_natCast, Int.natAbs_natCast, Nat.pow_add]
  have hl : Nat.lcm D.natAbs d ≤ D.natAbs * d := by
    unfold Nat.lcm
    exact Nat.div_le_self _ _
  exact Nat.lt_of_le_of_lt hl (Nat.mul_lt_mul'' h1 h2)
theorem lcm_pos' {D : Int} {d : Nat} (h0 : 0 < D) (h1 : d ≠ 0) : 0 < ((Nat.lcm D.natAbs (d : Int).natAbs : Nat) : Int) := by
  rw [Int.natAbs_natCast]
  have := Nat.lcm_pos (show 0 < D.natAbs by omega) (show 0 < d by omega)
  omega
theorem lcm_left {D : Int} {d : Nat} {x : Int} (h : x ∣ D) : x ∣ ((Nat.lcm D.natAbs (d : Int).natAbs : Nat) : Int) := by
  refine Int.dvd_trans h ?_
  have : D.natAbs ∣ Nat.lcm D.natAbs (d : Int).natAbs := Nat.dvd_lcm_left _ _
  exact Int.natAbs_dvd_natAbs.mp (by rw [Int.natAbs_natCast]; exact this)
theorem lcm_right {D : Int} {d : Nat} : (d : Int) ∣ ((Nat.lcm D.natAbs (d : Int).natAbs : Nat) : Int) := by
  have : d ∣ Nat.lcm D.natAbs (d : Int).natAbs := by
    rw [Int.natAbs_natCast]
    exact Nat.dvd_lcm_right _ _
  exact Int.natAbs_dvd_natAbs.mp (by rw [Int.natAbs_natCast, Int.natAbs_natCast]; exact this)
/-- num * (D // den) is D times the fraction -/
theorem clear_eq {q : Rat} {D : Int} (h : (q.den : Int) ∣ D) : ((q.num * D.fdiv (q.den : Int) : Int) : Rat) = (D : Rat) * q := by
  obtain ⟨k, hk⟩ := h
  have hd : (q.den : Int) ≠ 0 := by have := q.den_nz; omega
  have hdr : ((q.den : Int) : Rat) ≠ 0 := by exact_mod_cast hd
  rw [hk, Int.mul_fdiv_cancel_left _ hd]
  have e : q = (q.num : Rat) / ((q.den : Int) : Rat) := by
    rw [← Rat.divInt_eq_div]
    exact (fr_self q).symm
  have key : ∀ (q n d k : Rat), d ≠ 0 → q = n / d → n * k = d * k * q := by
    intro q n d k h1 h2
    grind
  have := key q _ _ (k : Rat) hdr e
  push_cast at this ⊢
  exact this
theorem clear_bz {q : Rat} {D : Int} {a b : Nat} (h0 : 0 < D) (h1 : Bz a D) (h2 : Qz b q) : Bz (b + a) (q.num * D.fdiv (q.den : Int)) := by
  refine Bz.mul h2.n ?_
  unfold Bz at *
  rw [Int.fdiv_eq_ediv_of_nonneg _ (by omega)]
  refine Nat.lt_of_le_of_lt ?_ h1
  exact Int.natAbs_ediv_le_natAbs _ _
end Vx
namespace Vx
open PySem PySem.Spec PyProof.Rows L2
/-- the targets x, y of a comprehension -/
theorem pg_pair {X : Cx} {K : PySem.W.Frag} {i j : Nat} {x y : Str} {p q pos : Pos} {k : Nat} (hK : X.K = K) (hc : X.calm = true) (hN : X.N.Nodup) (hi : X.N[i]? = some x) (hj : X.N[j]? = some y)
    (hx : X.env.scope.names.lookup x = some .local) (hy : X.env.scope.names.lookup y = some .local) : PG X (.Tuple [.Name x p, .Name y q] k pos) (gTup K 2 (gCons (gName i) (gCons (gName j) gNil))) := by
  subst hK
  exact pg_tup hc (pgs_cons (pg_name hN hi (Or.inl hx) (Or.inr hx)) (pgs_cons (pg_name hN hj (Or.inl hy) (Or.inr hy)) pgs_nil))
/-- x[i], x a tuple, within a comprehension -/
theorem pe_ixTK {X : Cx} {K : PySem.W.Frag} {a i : Expr} {ta ti : TE} {pos : Pos} (hK : X.K = K) (h : PE X (.Subscript a i pos) (tOp (rIxT X.K) ta ti)) : PE X (.Subscript a i pos) (tOp (rIxT K) ta ti) := by
  subst hK
  exact h
end Vx
namespace Vx
open PySem PySem.Spec PyProof.Rows L2
theorem walk_zipT {K : PySem.W.Frag} {a b : Addr} {xs ys : List V} {n : Nat} (hn : n = min xs.length ys.length) : Walk (RZ.ItzT K a b) n (fun H => SqT K H a xs ∧ SqT K H b ys) (YPair (fun i => xs[i]?) (fun i => ys[i]?)) := by
  subst hn
  refine ⟨fun i _ hi q => ?_, fun _ q => ⟨xs, ys, q.1, q.2, by omega⟩, fun i H v H' _ q y => ?_⟩
  · have h1 : i < xs.length := by omega
    have h2 : i < ys.length := by omega
    exact ⟨xs, ys, xs[i], ys[i], q.1, q.2, by simp [h1], by simp [h2]⟩
  · obtain ⟨T, x, z, h1, h2, h3, h4, h5⟩ := y
    exact ⟨T, x, z, h1, h2, h3, h4 xs q.1, h5 ys q.2⟩
theorem walk_revT {K : PySem.W.Frag} {a : Addr} {xs : List V} : Walk (RT.ItvT K a xs.length) xs.length (fun H => SqT K H a xs) (fun i H x H' => H' = H ∧ xs[xs.length - 1 - i]? = some x) :=
  ⟨fun i _ hi q => ⟨hi, xs, xs[xs.length - 1 - i]'(by omega), q, by simp [show xs.length - 1 - i < xs.length by omega]⟩, fun _ _ => Nat.le_refl _, fun _ _ _ _ _ q y => ⟨y.1, y.2 xs q⟩⟩
def toR (ns : List Int) : List Rat := ns.map fun (n : Int) => (n : Rat)
theorem ev_toR_div (ns : List Int) {m : Int} (hm : m ≠ 0) (x : Rat) : ev (ns.map fun n => Rat.divInt n m) x = ev (toR ns) x / (m : Rat) := by
  have hr : (m : Rat) ≠ 0 := by exact_mod_cast hm
  induction ns with
  | nil =>
    show (0 : Rat) = 0 / (m : Rat)
    grind
  | cons n ns ih =>
    show Rat.divInt n m + x * ev (ns.map fun n => Rat.divInt n m) x = ((n : Rat) + x * ev (toR ns) x) / (m : Rat)
    rw [ih, Rat.divInt_eq_div]
    grind
theorem al_of_get {R : V → Rat → Prop} {n : Nat} {acc : List V} {f : Nat → Rat} (hl : acc.length = n) (h : ∀ i y, acc[i]? = some y → R y (f i)) : Al R acc ((List.range n).map f) := by
  refine Al.of (by rw [List.length_map, List.length_range, hl]) fun i v q h1 h2 => ?_
  have hi : i < n := by
    have := (List.getElem?_eq_some_iff.mp h1).1
    omega
  rw [List.getElem?_map, List.getElem?_range hi] at h2
  cases h2
  exact h i v h1
theorem map_range_getD {α : Type} (l : List α) (d : α) : (List.range l.length).map (fun i => l.getD i d) = l := by
  refine List.ext_getElem? fun i => ?_
  by_cases hi : i < l.length
  · rw [List.getElem?_map, List.getElem?_range hi, List.getElem?_eq_getElem hi]
    show some (l.getD i d) = _
    rw [List.getD_eq_getElem?_getD, List.getElem?_eq_getElem hi]
    rfl
  · rw [List.getElem?_eq_none (by simp only [List.length_map, List.length_range]; omega), List.getElem?_eq_none (by omega)]
end Vx
namespace Vx
open PySem PySem.Spec PyProof.Rows L2
theorem toR_take_succ {ns : List Int} {i : Nat} {n : Int} (h : ns[i]? = some n) (x : Rat) : ev (toR (ns.take (i + 1))) x = ev (toR (ns.take i)) x + (n : Rat) * x ^ i := by
  have hi := (List.getElem?_eq_some_iff.mp h).1
  rw [List.take_add_one, h]
  unfold toR
  rw [List.map_append, ev_append]
  have e : ((ns.take i).map fun (n : Int) => (n : Rat)).length = i := by rw [List.length_map, List.length_take]; omega
  rw [e]
  show _ + x ^ i * ((n : Rat) + x * 0) = _
  grind
theorem toR_set {ns : List Int} {k : Nat} (h : k < ns.length) (v : Int) (x : Rat) : ev (toR (ns.set k (ns[k] + v))) x = ev (toR ns) x + (v : Rat) * x ^ k := by
  unfold toR
  rw [List.map_set]
  have h2 : k < (ns.map fun (n : Int) => (n : Rat)).length := by rw [List.length_map]; exact h
  have := ev_set h2 (v : Rat) x
  rw [List.getElem_map] at this
  rw [← this]
  push_cast
  rfl
theorem toR_rep (n : Nat) (x : Rat) : ev (toR (List.replicate n 0)) x = 0 := by
  unfold toR
  rw [List.map_replicate]
  exact ev_replicate0 n x
theorem mul_le_pow {c n e : Nat} (h : c ≤ n * 2 ^ e) (hn : n < 1000) : c < 2 ^ (e + 10) := by
  have p := Nat.two_pow_pos e
  rw [Nat.pow_add]
  have h1 : n * 2 ^ e ≤ 999 * 2 ^ e := Nat.mul_le_mul_right _ (by omega)
  have h2 : 999 * 2 ^ e < 2 ^ e * 2 ^ 10 := by
    rw [Nat.mul_comm (2 ^ e)]
    exact Nat.mul_lt_mul_of_pos_right (by decide) p
  omega
end Vx
namespace Vx
open PySem PySem.Spec PyProof.Rows L2
theorem canLay_rw (qs : List Rat) : PyData.canLayAll0 (qs.map dFr) = true := by
  induction qs with
  | nil => rfl
  | cons q qs ih =>
    show (PyData.canLay0 (dFr q) && PyData.canLayAll0 (qs.map dFr)) = true
    rw [ih]
    unfold dFr
    simp [PyData.canLay0, PyData.canLayAll0]
theorem depth_rw (qs : List Rat) : PyData.depthAll (qs.map dFr) ≤ 2 := by
  induction qs with
  | nil => simp [PyData.depthAll]
  | cons q qs ih =>
    simp only [List.map_cons, PyData.depthAll]
    have : (dFr q).depth ≤ 2 := by unfold dFr; simp [PyData.depth, PyData.depthAll]
    omega
theorem shaped_rw (qs : List Rat) : SeqAt.shaped (dRw qs) = true := by
  unfold dRw SeqAt.shaped
  have h1 := canLay_rw qs
  have h2 := depth_rw qs
  rw [Bool.and_eq_true]
  refine ⟨by simpa [PyData.canLay0] using h1, decide_eq_true ?_⟩
  simp only [PyData.depth]
  omega
theorem eqv_rw : ∀ (ps qs : List Rat), PyData.eqvAll (ps.map dFr) (qs.map dFr) = decide (ps = qs)
  | [], [] => rfl
  | [], _ :: _ => by simp [PyData.eqvAll]
  | _ :: _, [] => by simp [PyData.eqvAll]
  | p :: ps, q :: qs => by
    rw [List.map_cons, List.map_cons]
    show (PyData.eqv (dFr p) (dFr q) && PyData.eqvAll (ps.map dFr) (qs.map dFr)) = _
    rw [eqv_fr, eqv_rw ps qs]
    by_cases h1 : p = q
    · by_cases h2 : ps = qs
      · simp [h1, h2]
      · simp [h2]
    · simp [h1]
theorem dp_rwA {K : PySem.W.Frag} {H : Hp} : ∀ {vs : List V} {qs : List Rat}, FrA K H vs qs → DpAll K H vs (qs.map dFr)
  | _, _, .nil => .nil
  | _, _, .cons h t => .cons (dp_fr h) (dp_rwA t)
theorem dp_rw {K : PySem.W.Frag} {H : Hp} {v : V} {qs : List Rat} (h : RwT K H v qs) : Dp K H v (dRw qs) := by
  obtain ⟨a, vs, rfl, s, f⟩ := h
  exact .tup s (dp_rwA f)
theorem rEqD_rw {K : PySem.W.Frag} {H : Hp} {x y : V} {ps qs : List Rat} {Q : VK} (hx : RwT K H x ps) (hy : RwT K H y qs) (h : Q (.bl (decide (ps = qs))) H) : rEqD K x y H Q :=
  ⟨dRw ps, dRw qs, dp_rw hx, dp_rw hy, shaped_rw ps, shaped_rw qs, by
    show Q (.bl (PyData.eqv (.tuple (ps.map dFr)) (.tuple (qs.map dFr)))) H
    rw [show PyData.eqv (.tuple (ps.map dFr)) (.tuple (qs.map dFr)) = PyData.eqvAll (ps.map dFr) (qs.map dFr) from rfl, eqv_rw]
    exact h⟩
theorem rNeD_rw {K : PySem.W.Frag} {H : Hp} {x y : V} {ps qs : List Rat} {Q : VK} (hx : RwT K H x ps) (hy : RwT K H y qs) (h : Q (.bl (!decide (ps = qs))) H) : rNeD K x y H Q :=
  ⟨dRw ps, dRw qs, dp_rw hx, dp_rw hy, shaped_rw ps, shaped_rw qs, by
    show Q (.bl (!PyData.eqv (.tuple (ps.map dFr)) (.tuple (qs.map dFr)))) H
    rw [show PyData.eqv (.tuple (ps.map dFr)) (.tuple (qs.map dFr)) = PyData.eqvAll (ps.map dFr) (qs.map dFr) from rfl, eqv_rw]
    exact h⟩
theorem rwt_nil {K : PySem.W.Frag} {H : Hp} {p : Addr} (h : SqT K H p []) : RwT K H (.ref p) [] := ⟨p, [], rfl, h, .nil⟩
end Vx
namespace Vx
open PySem PySem.Spec PyProof.Rows L2
theorem tifn {c : Prop} [Decidable c] {A B : Prop} (h1 : ¬ c → A) (h2 : c → B) : if (!decide c) = true then A else B := by
  by_cases h : c
  · rw [decide_eq_true h]
    exact h2 h
  · rw [decide_eq_false h]
    exact h1 h
end Vx
namespace Vx
open PySem PySem.Spec PyProof.Rows L2
theorem but_samet {a : Addr} {H H' : Hp} (h : RlAt a H) (b : But a H H') : SameT H H' := fun c o e n => by
  obtain ⟨x, y, z, ea⟩ := h
  refine b c o e fun q => ?_
  rw [q, ea] at e
  cases e
  exact n _ rfl
theorem same_rl {a : Addr} {H H' : Hp} (h : RlAt a H) (s : Same H H') : RlAt a H' := by
  obtain ⟨x, y, z, e⟩ := h
  exact ⟨x, y, z, s _ _ e⟩
theorem getD_pad (l : List Rat) (n i : Nat) : (l ++ List.replicate n 0).getD i 0 = l.getD i 0 := by
  rw [List.getD_eq_getElem?_getD, List.getD_eq_getElem?_getD]
  by_cases h : i < l.length
  · rw [List.getElem?_append_left h]
  · rw [List.getElem?_append_right (by omega), List.getElem?_eq_none (show l.length ≤ i by omega), List.getElem?_replicate]
    split <;> rfl
theorem getD_mem_or {l : List Rat} (i : Nat) : l.getD i 0 ∈ l ∨ l.getD i 0 = 0 := by
  rw [List.getD_eq_getElem?_getD]
  by_cases h : i < l.length
  · left
    rw [List.getElem?_eq_getElem h]
    exact List.getElem_mem h
  · right
    rw [List.getElem?_eq_none (by omega)]
    rfl
theorem qs_getD {b : Nat} {l : List Rat} (h : Qs b l) (hb : 0 < b) (i : Nat) : Qz b (l.getD i 0) := by
  rcases getD_mem_or (l := l) i with z | z
  · exact h _ z
  · rw [z]
    exact qz0 hb
theorem Al.set {R : V → Rat → Prop} {vs : List V} {qs : List Rat} (h : Al R vs qs) (k : Nat) {v : V} {q : Rat} (r : R v q) : Al R (vs.set k v) (qs.set k q) := by
  induction h generalizing k with
  | nil => exact .nil
  | cons h t ih =>
    cases k with
    | zero => exact .cons r t
    | succ k => exact .cons h (ih k)
theorem ixN_nat {n i : Nat} (h : i < n) : ixN n (i : Int) = some i := by
  unfold ixN
  rw [if_pos (by omega)]
  show (if _ then _ else _) = _
  rw [if_pos (by omega)]
  exact congrArg some (by omega)
theorem rw_take_succ {qs : List Rat} {i : Nat} {q : Rat} (h : qs[i]? = some q) (x : Rat) : ev (qs.take (i + 1)) x = ev (qs.take i) x + q * x ^ i := by
  have hi := (List.getElem?_eq_some_iff.mp h).1
  rw [List.take_add_one, h, ev_append]
  have e : (qs.take i).length = i := by rw [List.length_take]; omega
  rw [e]
  show _ + x ^ i * (q + x * 0) = _
  grind
end Vx
namespace Vx
open PySem PySem.Spec PyProof.Rows L2
theorem rSlA_take {K : PySem.W.Frag} {H : Hp} {x : V} {qs : List Rat} {m : Nat} {Q : VK} (h : RwT K H x qs) (hm : m ≤ qs.length) (q : ∀ v H', Same H H' → RwT K H' v (qs.take m) → Q v H') : rSlA K x none (some (m : Int)) H Q := by
  obtain ⟨a, us, rfl, ha, hA⟩ := h
  have hL := hA.length
  refine ⟨a, us, rfl, ha, fun hw => ?_, fun hw p hp => ?_⟩
  · have h2 := hw.2
    rw [HT.sIx_nat, Nat.min_eq_left (by omega)] at h2
    rw [List.take_of_length_le (show qs.length ≤ m by omega)] at q
    exact q _ H (Same.refl _) ⟨a, us, rfl, ha, hA⟩
  · rw [cutV_take (by omega)]
    exact q _ _ (same_new hp) ⟨p, us.take m, rfl, SqT.of upd_same, fra_mono (same_t (same_new hp)) (hA.take m)⟩
theorem rSlA_drop {K : PySem.W.Frag} {H : Hp} {x : V} {qs : List Rat} {m : Nat} {Q : VK} (h : RwT K H x qs) (hm : m ≤ qs.length) (q : ∀ v H', Same H H' → RwT K H' v (qs.drop m) → Q v H') : rSlA K x (some (m : Int)) none H Q := by
  obtain ⟨a, us, rfl, ha, hA⟩ := h
  have hL := hA.length
  refine ⟨a, us, rfl, ha, fun hw => ?_, fun hw p hp => ?_⟩
  · have h2 := hw.1
    rw [HT.sIx_nat, Nat.min_eq_left (by omega)] at h2
    subst h2
    exact q _ H (Same.refl _) ⟨a, us, rfl, ha, hA⟩
  · have e : cutV us (some (m : Int)) none = us.drop m := by
      unfold cutV
      rw [HT.sIx_none, HT.sIx_nat, Nat.min_eq_left (by omega), List.take_of_length_le (by rw [List.length_drop]; exact Nat.le_refl _)]
    rw [e]
    exact q _ _ (same_new hp) ⟨p, us.drop m, rfl, SqT.of upd_same, fra_mono (same_t (same_new hp)) (hA.drop m)⟩
theorem rCatA_rw {K : PySem.W.Frag} {H : Hp} {x y : V} {ps qs : List Rat} {Q : VK} (hx : RwT K H x ps) (hy : RwT K H y qs) (hz : ps.length + qs.length ≤ 10000) (q : ∀ v H', Same H H' → RwT K H' v (ps ++ qs) → Q v H') : rCatA K x y H Q := by
  obtain ⟨a, us, rfl, ha, hA⟩ := hx
  obtain ⟨b, vs, rfl, hb, hB⟩ := hy
  have hL := hA.length
  have hM := hB.length
  refine ⟨a, b, us, vs, rfl, rfl, ha, hb, by rw [sizeLine_eq]; omega, fun e => ?_, fun e1' e2 => ?_, fun e1' e2 p hp => ?_⟩
  · rw [e] at hL
    have e3 : ps = [] := List.eq_nil_of_length_eq_zero hL.symm
    rw [e3] at q
    exact q _ _ (Same.refl _) ⟨b, vs, rfl, hb, hB⟩
  · rw [e2] at hM
    have e3 : qs = [] := List.eq_nil_of_length_eq_zero hM.symm
    rw [e3, List.append_nil] at q
    exact q _ _ (Same.refl _) ⟨a, us, rfl, ha, hA⟩
  · exact q _ _ (same_new hp) ⟨p, us ++ vs, rfl, SqT.of upd_same, (fra_mono (same_t (same_new hp)) hA).append (fra_mono (same_t (same_new hp)) hB)⟩
theorem Al.one {R : V → Rat → Prop} {v : V} {q : Rat} (h : R v q) : Al R [v] [q] := .cons h .nil
end Vx
namespace Vx
open PySem PySem.Spec PyProof.Rows L2
theorem showA_rw : ∀ (qs : List Rat), Qs 1900 qs → PyData.showableAll (qs.map dFr) = true
  | [], _ => rfl
  | q :: qs, h => by
    have hq := h q List.mem_cons_self
    have ih := showA_rw qs fun c hc => h c (List.mem_cons_of_mem _ hc)
    have l1 : q.num.natAbs.log2 < 1920 := Nat.lt_of_lt_of_le (log_lt (by decide) hq.1) (by decide)
    have l2 : q.den.log2 < 1920 := Nat.lt_of_lt_of_le (log_lt (by decide) hq.2) (by decide)
    rw [List.map_cons]
    simp only [PyData.showableAll, ih, Bool.and_true]
    unfold dFr
    simp [PyData.showable, PyData.showableAll, l1, l2]
theorem costs_fr : ∀ (qs : List Rat), costs (qs.map dFr) = 3853 * qs.length
  | [] => rfl
  | q :: qs => by
    rw [List.map_cons]
    show cost (dFr q) + 2 + costs (qs.map dFr) = _
    rw [costs_fr qs, List.length_cons]
    show 3851 + 2 + _ = _
    omega
theorem okd_frs {qs : List Rat} (h : Qs 1900 qs) (hl : qs.length ≤ 1000) : Okd (.list (qs.map dFr)) := by
  refine ⟨by simpa [PyData.showable] using showA_rw qs h, ?_, ?_⟩
  · have := depth_rw qs
    simp only [PyData.depth]
    omega
  · show costs (qs.map dFr) + 2 ≤ _
    rw [costs_fr]
    omega
def RwOk (r : List Rat) : Prop := Qs 1900 r ∧ r.length ≤ 60
theorem okd_rws {rs : List (List Rat)} (h : ∀ r ∈ rs, RwOk r) (hl : rs.length ≤ 20) : Okd (.list (rs.map dRw)) := by
  have h1 : ∀ rs : List (List Rat), (∀ r ∈ rs, RwOk r) → PyData.showableAll (rs.map dRw) = true := by
    intro rs
    induction rs with
    | nil => intro _; rfl
    | cons r rs ih =>
      intro h
      rw [List.map_cons]
      simp only [PyData.showableAll, ih fun c hc => h c (List.mem_cons_of_mem _ hc), Bool.and_true]
      unfold dRw
      simpa [PyData.showable] using showA_rw r (h r List.mem_cons_self).1
  have h2 : ∀ rs : List (List Rat), (∀ r ∈ rs, RwOk r) → costs (rs.map dRw) ≤ 231200 * rs.length := by
    intro rs
    induction rs with
    | nil => intro _; exact Nat.zero_le _
    | cons r rs ih =>
      intro h
      rw [List.map_cons, List.length_cons]
      show cost (dRw r) + 2 + costs (rs.map dRw) ≤ _
      have i1 := ih fun c hc => h c (List.mem_cons_of_mem _ hc)
      have i2 : cost (dRw r) = 3853 * r.length + 3 := by
        show costs (r.map dFr) + 3 = _
        rw [costs_fr]
      have i3 := (h r List.mem_cons_self).2
      omega
  have h3 : ∀ rs : List (List Rat), PyData.depthAll (rs.map dRw) ≤ 3 := by
    intro rs
    induction rs with
    | nil => simp [PyData.depthAll]
    | cons r rs ih =>
      simp only [List.map_cons, PyData.depthAll]
      have : (dRw r).depth ≤ 3 := by
        have := depth_rw r
        unfold dRw
        simp only [PyData.depth]
        omega
      omega
  refine ⟨by simpa [PyData.showable] using h1 rs h, ?_, ?_⟩
  · have := h3 rs
    simp only [PyData.depth]
    omega
  · show costs (rs.map dRw) + 2 ≤ _
    have := h2 rs h
    omega
theorem fold_le {l n a : Nat} (h : l ≤ n) : l * a ≤ n * a := Nat.mul_le_mul_right a h
end Vx
namespace Vx
open PySem PySem.Spec PyProof.Rows L2
theorem tab_mono {H H' : Hp} {tb : Addr} (e : SameT H H') (h : H tb = some (tabX tb)) : H' tb = some (tabX tb) := e _ _ h fun xs z => by
  unfold tabX at z
  cases z
theorem ne_str_same {A B : Prop} {x : Str} (h : B) : if (!decide (V.str x = V.str x)) = true then A else B := by
  rw [decide_eq_true rfl]
  exact h
end Vx
namespace Vx
open PySem PySem.Spec PyProof.Rows L2
section
variable {X : Cx}
def ipMulX : TIp := fun x y H Q => ∃ i j, x = .int i ∧ y = .int j ∧ CMulX i j ∧ Q (.int (i * j)) H
theorem ip_mulX : PIp X .Mult ipMulX := by
  intro pins s σ H x y v u Q I r1 r2 h
  obtain ⟨i, j, e1, e2, c, q⟩ := h
  subst e1; subst e2
  obtain ⟨t, rfl⟩ := r1
  obtain ⟨t', rfl⟩ := r2
  exact imul_int ⟨.int _, H, I.tok _, ⟨_, rfl⟩, q⟩ c.ok
end
/-! ### products of rows, as rows -/
def pmul : List Rat → List Rat → List Rat
  | [], _ => []
  | [x], b => b.map (x * ·)
  | x :: y :: a, b => ladd (b.map (x * ·)) (0 :: pmul (y :: a) b)
theorem ev_pmul : ∀ (a b : List Rat) (z : Rat), ev (pmul a b) z = ev a z * ev b z
  | [], b, z => by
    show (0 : Rat) = 0 * ev b z
    grind
  | [x], b, z => by
    show ev (b.map (x * ·)) z = (x + z * 0) * ev b z
    rw [ev_scale]
    grind
  | x :: y :: a, b, z => by
    show ev (ladd (b.map (x * ·)) (0 :: pmul (y :: a) b)) z = (x + z * ev (y :: a) z) * ev b z
    rw [ev_ladd, ev_scale]
    show x * ev b z + (0 + z * ev (pmul (y :: a) b) z) = _
    rw [ev_pmul (y :: a) b z]
    grind
theorem ladd_length : ∀ (a b : List Rat), (ladd a b).length = max a.length b.length
  | [], b => by show b.length = max 0 b.length; omega
  | c :: a, [] => by show (c :: a).length = max (c :: a).length 0; omega
  | c :: a, d :: b => by
    show (ladd a b).length + 1 = max (a.length + 1) (b.length + 1)
    rw [ladd_length a b]
    omega
theorem ladd_last : ∀ (a b : List Rat) (hb : b ≠ []) (h : a.length < b.length) (hn : ladd a b ≠ []), (ladd a b).getLast hn = b.getLast hb
  | [], b, hb, h, hn => rfl
  | c :: a, [], hb, h, hn => absurd rfl hb
  | c :: a, [d], hb, h, hn => absurd h (by simp)
  | c :: a, d :: e :: b, hb, h, hn => by
    have h1 : a.length < (e :: b).length := by simpa using h
    have hn1 : ladd a (e :: b) ≠ [] := fun z => by
      have := congrArg List.length z
      rw [ladd_length, List.length_nil] at this
      simp at this
    show (((c + d) :: ladd a (e :: b)).getLast _) = _
    rw [List.getLast_cons hn1, List.getLast_cons (List.cons_ne_nil e b)]
    exact ladd_last a (e :: b) (List.cons_ne_nil _ _) h1 hn1
theorem pmul_shape : ∀ (a b : List Rat) (ha : a ≠ []) (hb : b ≠ []), (pmul a b).length + 1 = a.length + b.length ∧ ∀ hn : pmul a b ≠ [], (pmul a b).getLast hn = a.getLast ha * b.getLast hb
  | [], b, ha, hb => absurd rfl ha
  | [x], b, ha, hb => by
    refine ⟨?_, fun hn => ?_⟩
    · show (b.map (x * ·)).length + 1 = 1 + b.length
      rw [List.length_map]
      omega
    · have e : ∀ (hm : b.map (x * ·) ≠ []), (b.map (x * ·)).getLast hm = x * b.getLast hb := fun hm => by rw [List.getLast_map]
      exact e hn
  | x :: y :: a, b, ha, hb => by
    obtain ⟨l, g⟩ := pmul_shape (y :: a) b (List.cons_ne_nil _ _) hb
    have lb : 0 < b.length := List.length_pos_iff.mpr hb
    have hp : 0 < (pmul (y :: a) b).length := by
      have : (y :: a).length = a.length + 1 := rfl
      omega
    have hpn : pmul (y :: a) b ≠ [] := List.length_pos_iff.mp hp
    refine ⟨?_, fun hn => ?_⟩
    · show (ladd (b.map (x * ·)) (0 :: pmul (y :: a) b)).length + 1 = _
      have e1 := ladd_length (b.map (x * ·)) (0 :: pmul (y :: a) b)
      rw [List.length_map, List.length_cons] at e1
      have e2 : (x :: y :: a).length = a.length + 1 + 1 := rfl
      have e3 : (y :: a).length = a.length + 1 := rfl
      omega
    · have h1 : (b.map (x * ·)).length < (0 :: pmul (y :: a) b).length := by
        rw [List.length_map, List.length_cons]
        have : (y :: a).length = a.length + 1 := rfl
        omega
      have := ladd_last (b.map (x * ·)) (0 :: pmul (y :: a) b) (List.cons_ne_nil _ _) h1 hn
      show (ladd (b.map (x * ·)) (0 :: pmul (y :: a) b)).getLast hn = _
      rw [this, List.getLast_cons hpn, g hpn, List.getLast_cons (List.cons_ne_nil y a)]
theorem tr_pmul {a b : List Rat} (ha : Tr a) (hb : Tr b) (hna : a ≠ []) (hnb : b ≠ []) : Tr (pmul a b) := fun hn => by
  rw [(pmul_shape a b hna hnb).2 hn]
  have h1 := ha hna
  have h2 := hb hnb
  grind
/-- a row of fewer numbers is no product with a row, but nought -/
theorem no_small {a b s : List Rat} (ha : Tr a) (hb : Tr b) (hnb : b ≠ []) (hs : Tr s) (hl : s.length < b.length) (h : ∀ z, ev a z * ev b z = ev s z) : a = [] := by
  refine Classical.byContradiction fun hna => ?_
  have e : pmul a b = s := ev_inj (tr_pmul ha hb hna hnb) hs fun z => by rw [ev_pmul, h]
  have l := (pmul_shape a b hna hnb).1
  rw [e] at l
  have : 0 < a.length := List.length_pos_iff.mpr hna
  omega
/-- the row of any numbers -/
theorem trim_ex (l : List Rat) : ∃ t : List Rat, Tr t ∧ t.length ≤ l.length ∧ ∀ z, ev t z = ev l z := by
  induction l with
  | nil => exact ⟨[], tr_nil, Nat.le_refl _, fun _ => rfl⟩
  | cons c l ih =>
    obtain ⟨t, h1, h2, h3⟩ := ih
    by_cases ht : t = []
    · subst ht
      by_cases hc : c = 0
      · refine ⟨[], tr_nil, Nat.zero_le _, fun z => ?_⟩
        show (0 : Rat) = c + z * ev l z
        rw [← h3, hc]
        show (0 : Rat) = 0 + z * 0
        grind
      · refine ⟨[c], fun _ => hc, by simp, fun z => ?_⟩
        show c + z * 0 = c + z * ev l z
        rw [← h3]
        rfl
    · refine ⟨c :: t, fun hn => ?_, by simpa using h2, fun z => ?_⟩
      · rw [List.getLast_cons ht]
        exact h1 ht
      · show c + z * ev t z = c + z * ev l z
        rw [h3]
/-- quotient and rest are the only ones -/
theorem div_unique {d q r q' r' : List Rat} (hd : Tr d) (hnd : d ≠ []) (hq : Tr q) (hq' : Tr q') (hr : Tr r) (hr' : Tr r') (hl : r.length < d.length) (hl' : r'.length < d.length)
    (h : ∀ z, ev q z * ev d z + ev r z = ev q' z * ev d z + ev r' z) : q = q' ∧ r = r' := by
  obtain ⟨a, a1, _, a3⟩ := trim_ex (ladd q (q'.map ((-1 : Rat) * ·)))
  obtain ⟨s, s1, s2, s3⟩ := trim_ex (ladd r' (r.map ((-1 : Rat) * ·)))
  have la : s.length < d.length := by
    rw [ladd_length, List.length_map] at s2
    omega
  have e := no_small a1 hd hnd s1 la fun z => by
    rw [a3, s3, ev_ladd, ev_ladd, ev_scale, ev_scale]
    have := h z
    grind
  subst e
  have hqq : q = q' := ev_inj hq hq' fun z => by
    have := a3 z
    rw [ev_ladd, ev_scale] at this
    have z0 : ev [] z = 0 := rfl
    rw [z0] at this
    grind
  refine ⟨hqq, ev_inj hr hr' fun z => ?_⟩
  have := h z
  rw [hqq] at this
  grind
end Vx
-- pyl
-- big
set_option Elab.async false
set_option linter.all false
set_option maxRecDepth 100000
set_option maxHeartbeats 4000000
namespace Vx
open PySem PySem.Spec PyProof.Rows L2
local macro_rules | `(tactic| walk_at "cl") => `(tactic| first | assumption | exact Bz.mono (Bz.mul (by assumption) (by assumption)) (by decide) | rfl | omega | exact sz_of 0 rfl (by decide) | exact sz_of 1 rfl (by decide) | exact sz_of 2 rfl (by decide) | exact sz_of 3 rfl (by decide) | exact cmuly (by assumption) (by assumption) (by decide) | exact Bz.mono (Bz.mul (by assumption) (by assumption)) (by decide) | decide)
local macro_rules | `(tactic| walk_at "ex") => `(tactic| ((show Exists _); first | apply @Exists.intro V | apply @Exists.intro Int | apply @Exists.intro Addr | apply @Exists.intro (List V) | apply @Exists.intro Nat | apply @Exists.intro Str | apply @Exists.intro Bool | apply @Exists.intro (Option V) | apply @Exists.intro String | apply @Exists.intro Rat | apply @Exists.intro (List Rat)))
local macro_rules | `(tactic| walk_at "rd") => `(tactic| ((repeat (first | (walk_at "ex") | (apply And.intro; (focus (walk_at "cl"))))); (try dsimp only [])))
local macro_rules | `(tactic| walk_at "r0") => `(tactic| (repeat (first | (walk_at "ex") | (apply And.intro; (focus (walk_at "cl"))))))

/-- the built-in names -/
structure Blt (mg : Str → Option Value) : Prop extends Bls mg where
  n_type : mg "type" = none
  n_tuple : mg "tuple" = none
  n_list : mg "list" = none
  n_zip : mg "zip" = none
  n_enumerate : mg "enumerate" = none
  n_reversed : mg "reversed" = none
  g_gcd : mg "gcd" = some (.builtin "math.gcd")
section
variable {Pr : Program} {w : World} {K : PySem.W.Frag} {mg : Str → Option Value}
/-- is_whole of an int -/
theorem lw_whole {f : Addr} {fd : FuncData} (F : Fun K "is_whole" "is_whole" s_is_whole f fd) (T : Blt mg) {A : Around} {s : Shared} {args : Args} {i : Int} {t : Tok} (M : L2.Mod K mg s.heap) (hroom : A.depth < recursionLimit) (hbd : BindsTo s fd args [("value", .int i t)]) :
    codeAny (model Pr w) A (.call (.ref f) args) (fun r s' => r = .ok (.ret (.bool true)) ∧ Keeps s s') s := by
  obtain ⟨oc, od, kV, doc, pm, an, cdv, ct, osl, rfl, lk, hcd⟩ := F.ex
  refine Att.call_fn (binds := [("value", .int i t)]) M.kin M.nolimit lk hcd hroom hbd (by first | rfl | decide | with_unfolding_all rfl) (fun s₁ IC => ?_) rfl rfl rfl
  obtain ⟨h₁, tk₁, rfl⟩ := IC.toInCall.same
  have k : ∀ b o, s.heap.get? b = some o → h₁.get? b = some o := IC.toInCall.keep
  have hn := IC.toInCall.ns
  have M1 : L2.Mod K mg h₁ := mod_keeps M k
  show wpAny _ _ (execs _ _) _ _ _
  refine wpAny_execs_cons (wpAny_Return_some (wpAny_Compare1 (Call_Name1 (lw_blt M1.glob T.n_type M1.blt (v := .type "type") (by rfl) (callWith_type1 (lw_loc hn (v := .int i t) (by rfl) ?_)))  )))
  refine call_type_of (typeIs_int _ i t) (by decide +kernel) ?_
  refine lw_blt M1.glob T.n_int M1.blt (v := .type "int") (by rfl) ?_
  exact wpAny_is_self rfl ⟨rfl, ⟨_, _, rfl, k⟩⟩
end
section
variable {Pr : Program} {w : World} {K : PySem.W.Frag} {mg : Str → Option Value}
/-- is_fraction of a tuple of two ints -/
theorem lw_frac {f fw : Addr} {fd fdw : FuncData} (F : Fun K "is_fraction" "is_fraction" s_is_fraction f fd) (Fw : Fun K "is_whole" "is_whole" s_is_whole fw fdw) (hw : mg "is_whole" = some (.ref fw)) (T : Blt mg) {A : Around} {s : Shared} {args : Args} {a : Addr} {i j : Int} {t u : Tok}
    (M : L2.Mod K mg s.heap) (hT : s.heap.IsTuple a #[.int i t, .int j u]) (hh : A.handled = none) (hroom : A.depth + 1 < recursionLimit) (hbd : BindsTo s fd args [("value", .ref a)]) (bW : ∀ (s : Shared) (v : Value), K.In s.heap → BindsTo s fdw ⟨[v], []⟩ [("value", v)]) :
    codeAny (model Pr w) A (.call (.ref f) args) (fun r s' => r = .ok (.ret (.bool (decide (0 < j) && ((i.natAbs.gcd j.natAbs : Nat) : Int) == 1))) ∧ Keeps s s') s := by
  obtain ⟨oc, od, kV, doc, pm, an, cdv, ct, osl, rfl, lk, hcd⟩ := F.ex
  refine Att.call_fn (binds := [("value", .ref a)]) M.kin M.nolimit lk hcd (Nat.lt_of_succ_lt hroom) hbd (by first | rfl | decide | with_unfolding_all rfl) (fun s₁ IC => ?_) rfl rfl rfl
  obtain ⟨h₁, tk₁, rfl⟩ := IC.toInCall.same
  have k : ∀ b o, s.heap.get? b = some o → h₁.get? b = some o := IC.toInCall.keep
  have hn := IC.toInCall.ns
  have M1 : L2.Mod K mg h₁ := mod_keeps M k
  have hT1 : h₁.IsTuple a #[.int i t, .int j u] := by
    obtain ⟨o, e, r⟩ := hT
    exact ⟨o, k _ _ e, r⟩
  have hhd : (A.deeper (envOfC "is_fraction" (defScope s_is_fraction) s.heap.objs.size f cdv)).handled = none := hh
  have hrm : (A.deeper (envOfC "is_fraction" (defScope s_is_fraction) s.heap.objs.size f cdv)).depth < recursionLimit := hroom
  generalize hL : s.heap.objs.size = L at *
  have nL : ∀ b o, s.heap.get? b = some o → b ≠ L := fun b o e z => by
    have := Heap.lt_size e
    rw [hL, z] at this
    exact Nat.lt_irrefl _ this
  show wpAny _ _ (execs _ _) _ _ _
  refine wpAny_execs_cons (wpAny_If (isTrue_or (wpAny_isTrue_Compare1 (Call_Name1 (lw_blt M1.glob T.n_type M1.blt (v := .type "type") (by rfl) (callWith_type1 (lw_loc hn (v := .ref a) (by rfl) ?_)))))))
  refine call_type_of hT1.typeIs (by decide +kernel) ?_
  refine lw_blt M1.glob T.n_tuple M1.blt (v := .type "tuple") (by rfl) ?_
  refine wpAny_isNot_self rfl (wpAny_truthy_bool ?_)
  show wpAny _ _ _ _ _ _
  refine isTrue_or (wpAny_isTrue_Compare1 (Call_Name1 (lw_blt M1.glob T.n_len M1.blt (v := .builtin "len") (by rfl) (callWith_builtin1 (lw_loc hn (v := .ref a) (by rfl) ?_)))))
  refine PyProof.Rows.len_tuple hT1 (by show (2 : Int) < 2 ^ 63; decide) ?_
  refine wpAny_Constant_int (PySem.P.ne_int (wpAny_truthy_bool ?_))
  show wpAny _ _ _ _ _ _
  refine isTrue_or_nil ?_
  show wpAny _ _ _ _ _ _
  refine wpAny_execs_nil ?_
  show wpAny _ _ _ _ _ _
  -- number, under = value
  refine wpAny_execs_cons (Assign_Tuple (lw_loc hn (v := .ref a) (by rfl) (assign_Tuple_tuple hhd hT1 rfl rfl fun h₂ hx => ?_)))
  have k2 : ∀ b o, h₁.get? b = some o → h₂.get? b = some o := fun b o e => hx b o (Nat.ne_of_lt (Heap.lt_size e)) e
  have hn2 := hn.keeps k2
  show wpAny _ _ (do holding [Value.int j u] _; _) _ _ _
  refine wpAny_bind (wpAny_holding ?_)
  show wpAny _ _ (do standAt _; bindName _ _ _) _ _ _
  refine wpAny_bind (wpAny_standAt (wpAny_bindName (wpAny_storeName_local rfl hn2 fun h₃ hn3 sb3 => ?_)))
  show wpAny _ _ (do holding [] _; _) _ _ _
  refine wpAny_bind (wpAny_holding ?_)
  show wpAny _ _ (do standAt _; bindName _ _ _) _ _ _
  refine wpAny_bind (wpAny_standAt (wpAny_bindName (wpAny_storeName_local rfl hn3 fun h₄ hn4 sb4 => ?_)))
  show wpAny _ _ (pure ()) _ _ _
  refine wpAny_pure ?_
  show wpAny _ _ (execs _ _) _ _ _
  have k4 : ∀ b o, s.heap.get? b = some o → h₄.get? b = some o := fun b o e => sb4.extBut b o (nL b o e) (sb3.extBut b o (nL b o e) (k2 b o (k b o e)))
  have M4 : L2.Mod K mg h₄ := mod_keeps M k4
  -- return ..
  refine wpAny_execs_cons (wpAny_Return_some (BoolOp_and ?_))
  refine wpAny_Call_Name_kw (lw_glob M4.glob hw ?_)
  refine PySem.W.callWith_K (h₀ := s.heap) M.kin Fw.kp (Calls.spliced_cons (lw_loc hn4 (v := .int i t) (by rfl) (Calls.spliced_nil ⟨M4.kin, ?_⟩)))
  refine wpAny_call (codeAny_mono (lw_whole Fw T M4 hrm (bW _ _ M4.kin)) fun r s5 hr => ?_)
  obtain ⟨rfl, h₅, tk5, rfl, k5⟩ := hr
  refine wpAny_truthy_bool ?_
  show wpAny _ _ _ _ _ _
  have M5 : L2.Mod K mg h₅ := mod_keeps M4 k5
  have hn5 := hn4.keeps k5
  refine BoolOp_and ?_
  refine wpAny_Call_Name_kw (lw_glob M5.glob hw ?_)
  refine PySem.W.callWith_K (h₀ := s.heap) M.kin Fw.kp (Calls.spliced_cons (lw_loc hn5 (v := .int j u) (by rfl) (Calls.spliced_nil ⟨M5.kin, ?_⟩)))
  refine wpAny_call (codeAny_mono (lw_whole Fw T M5 hrm (bW _ _ M5.kin)) fun r s6 hr => ?_)
  obtain ⟨rfl, h₆, tk6, rfl, k6⟩ := hr
  refine wpAny_truthy_bool ?_
  show wpAny _ _ _ _ _ _
  have M6 : L2.Mod K mg h₆ := mod_keeps M5 k6
  have hn6 := hn5.keeps k6
  have kk : ∀ b o, s.heap.get? b = some o → h₆.get? b = some o := fun b o e => k6 b o (k5 b o (k4 b o e))
  refine BoolOp_and (wpAny_Compare1 (lw_loc hn6 (v := .int j u) (by rfl) (wpAny_Constant_int (PySem.P.gt_int (wpAny_truthy_bool ?_)))))
  by_cases hj : (0 : Int) < j
  · rw [decide_eq_true (show j > 0 from hj)]
    show wpAny _ _ _ _ _ _
    refine BoolOp_one (wpAny_Compare1 (wpAny_Call_Name_kw (lw_glob M6.glob T.g_gcd ?_)))
    refine PyProof.Rows.callWith_builtin1 (Calls.spliced_cons (lw_loc hn6 (v := .int i t) (by rfl) (Calls.spliced_cons (lw_loc hn6 (v := .int j u) (by rfl) (Calls.spliced_nil ?_))))) rfl rfl
    refine PySem.W.mg_gcd fun _ => ?_
    refine wpAny_Constant_int (PySem.P.eq_int ?_)
    exact ⟨by simp, _, _, rfl, kk⟩
  · rw [decide_eq_false (show ¬ j > 0 from hj)]
    exact ⟨by simp, _, _, rfl, kk⟩
end

end Vx
namespace Vx
open PySem PySem.Spec PyProof.Rows L2
/-- the frame that runs is a plain def's -/
def PlainX (X : Cx) : Prop := ∃ e l, X.stack = e :: l ∧ e.scope.isGenerator = false ∧ e.scope.isCoroutine = false ∧ e.builtins = builtinsNs ∧ e.globals = mainGlobals
def CDivY (_ j : Int) : Prop := j ≠ 0
theorem cdivy {i j : Int} {b : Nat} (h0 : j ≠ 0) (_ : Bz b j) (_ : b ≤ 900000) : CDivY i j := h0
theorem cmuly {i j : Int} {a b : Nat} (ha : Bz a i) (hb : Bz b j) (h : a + b ≤ 10000000) : CMulX i j := mulx_ok ha hb (by omega)
section
variable {X : Cx}
theorem Inv.keepB {pins : List (Addr × Obj)} {σ : L2.St} {H : Hp} {s : Shared} (I : Inv X pins σ H s) : ∀ b o, X.base.get? b = some o → s.heap.get? b = some o := fun b o e => (I.bs b o e).1
theorem op_fdivY (S : Sys X.base) (hr : Room 32 X.A) (ht : X.prog.given.tree = none) (pl : PlainX X) : OpR X (binaryOp .FloorDiv) (rI CDivY fun i j => .int (i.fdiv j)) := by
  intro pins s σ H x y v u Q I rx ry h
  obtain ⟨i, j, rfl, rfl, hc, q⟩ := h
  obtain ⟨t, rfl⟩ := rx
  obtain ⟨t', rfl⟩ := ry
  obtain ⟨e, l, hs, h1, h2, h3, h4⟩ := pl
  have k := Inv.keepB I
  refine floordiv_int hc ⟨.int (i.fdiv j), H, I.tok _, ⟨_, rfl⟩, q⟩ (.inr (PylongRoom.of (S.2.1.keeps k) ?_ (SeerAt.of (S.2.2.keeps k) ht (I.ok.frames.trans (congrArg some hs)) h1 h2 h3 h4)))
  have := hr.dp
  show _ + 100 < _
  omega
end
end Vx
namespace Vx
open PySem PySem.Spec PyProof.Rows L2
theorem cdivw {i j : Int} {b : Nat} (h0 : j ≠ 0) (_ : Bz b j) (_ : b ≤ 9000000) : CDivY i j := h0
end Vx
-- pyl
-- big
set_option Elab.async false
set_option linter.all false
set_option maxRecDepth 100000
set_option maxHeartbeats 4000000
namespace Vx
open PySem PySem.Spec PyProof.Rows L2
local macro_rules | `(tactic| walk_at "cl") => `(tactic| first | assumption | exact Bz.mono (Bz.mul (by assumption) (by assumption)) (by decide) | rfl | omega | exact sz_of 0 rfl (by decide) | exact sz_of 1 rfl (by decide) | exact sz_of 2 rfl (by decide) | exact sz_of 3 rfl (by decide) | exact cmuly (by assumption) (by assumption) (by decide) | exact Bz.mono (Bz.mul (by assumption) (by assumption)) (by decide) | decide)
local macro_rules | `(tactic| walk_at "ex") => `(tactic| ((show Exists _); first | apply @Exists.intro V | apply @Exists.intro Int | apply @Exists.intro Addr | apply @Exists.intro (List V) | apply @Exists.intro Nat | apply @Exists.intro Str | apply @Exists.intro Bool | apply @Exists.intro (Option V) | apply @Exists.intro String | apply @Exists.intro Rat | apply @Exists.intro (List Rat)))
local macro_rules | `(tactic| walk_at "rd") => `(tactic| ((repeat (first | (walk_at "ex") | (apply And.intro; (focus (walk_at "cl"))))); (try dsimp only [])))
local macro_rules | `(tactic| walk_at "r0") => `(tactic| (repeat (first | (walk_at "ex") | (apply And.intro; (focus (walk_at "cl"))))))

section
variable {X : Cx}
theorem ps_absurd {st : Stmt} : PS X st (fun _ _ _ => False) := ⟨fun _ _ _ _ _ _ h => h.elim⟩
end
/-- the constant NIL -/
structure NilC (K : PySem.W.Frag) (mg : Str → Option Value) (aN : Addr) : Prop where
  g : mg "NIL" = some (.ref aN)
  sq : ∀ H : Hp, SqT K H aN [.int 0, .int 1]
theorem NilC.fr {K : PySem.W.Frag} {mg : Str → Option Value} {aN : Addr} (h : NilC K mg aN) (H : Hp) : FrT K H (.ref aN) 0 := ⟨aN, rfl, h.sq H⟩
section
variable {P : Program} {w : World} {K : PySem.W.Frag} {mg : Str → Option Value} {base : Heap}
/-- ratio: n / m in lowest terms -/
def spRatio (K : PySem.W.Frag) : Sp := fun vs H Q _ => ∃ n m : Int, vs = [.int n, .int m] ∧ m ≠ 0 ∧ Bz 1900000 m ∧ ∀ v H', Same H H' → FrT K H' v (Rat.divInt n m) → Q v H'
theorem sc_ratio : FnScope ["number", "under", "part"] ["number", "under"] (defScope s_ratio) := ⟨rfl, rfl, rfl, by decide +kernel, rfl, by decide +kernel, by decide +kernel⟩
theorem d_ratio (W : FunIn K mg "ratio" s_ratio) (T : Blt mg) (sy : Sys base) (hP : P.given.tree = none) : Df P w K mg base "ratio" 33 ["number", "under"] (spRatio K) := by
  obtain ⟨f, fd, F, hm⟩ := W
  refine ⟨f, fd, F.ok sc_ratio (fun vs H Q E h => ?_) (fun cdv A outer s H vs Q E hr h => ?_), hm, F.kp, F.binds fun _ _ _ _ _ _ us hl => match us, hl with | [_, _], _ => rfl⟩
  · obtain ⟨n, m, rfl, _⟩ := h
    rfl
  · obtain ⟨n, m, rfl, hm0, hmz, q⟩ := h
    have nd := sc_ratio.nd
    refine ⟨_, (pss_cons (ps_set (i := 2) nd rfl (Or.inl rfl) (pe_callBfun cr_gcd (by rfl) T.g_gcd (pa_cons (pv 0) (pa_cons (pv 1) pa_nil))))
        (pss_cons (ps_if (pt_cmpR op_lt (pv 1) pe_int (nomark _)) (pss_one (ps_set (i := 2) nd rfl (Or.inl rfl) (pe_un un_neg (pv 2)))) pss_nil)
        (pss_one (ps_ret (pe_tup (pa_cons (pe_op (op_fdivY sy (hr.mono (by decide)) hP ⟨_, _, rfl, rfl, rfl, rfl, rfl⟩) (pv 0) (pv 2)) (pa_cons (pe_op (op_fdivY sy (hr.mono (by decide)) hP ⟨_, _, rfl, rfl, rfl, rfl, rfl⟩) (pv 1) (pv 2)) pa_nil))))))), ?_⟩
    have hg : ((n.natAbs.gcd m.natAbs : Nat) : Int) ≠ 0 := by
      have := Nat.gcd_pos_of_pos_right n.natAbs (show 0 < m.natAbs by omega)
      omega
    have hgz : Bz 1900000 ((n.natAbs.gcd m.natAbs : Nat) : Int) := by
      unfold Bz
      rw [Int.natAbs_natCast]
      exact Nat.lt_of_le_of_lt (Nat.gcd_le_right _ (by omega)) hmz
    have fin : ∀ p, H p = none → Q (.ref p) (upd H p (.tup [.int (Rat.divInt n m).num, .int (Rat.divInt n m).den])) := fun p hp => q _ _ (same_new hp) ⟨p, rfl, SqT.of upd_same⟩
    walk_at "rd"
    refine tif (fun hneg => ?_) (fun hpos => ?_)
    · obtain ⟨e1, e2⟩ := fr_neg (n := n) hneg
      have c1 : ∀ i : Int, CDivY i (-((n.natAbs.gcd m.natAbs : Nat) : Int)) := fun i => cdivw (by omega) (by unfold Bz; rw [Int.natAbs_neg]; exact hgz) (by decide)
      have c2 := c1 n
      have c3 := c1 m
      walk_at "rd"
      rw [e1, e2]
      exact fin
    · obtain ⟨e1, e2⟩ := fr_pos_f (n := n) (show 0 < m by omega)
      have c1 : ∀ i : Int, CDivY i ((n.natAbs.gcd m.natAbs : Nat) : Int) := fun i => cdivw hg hgz (by decide)
      have c2 := c1 n
      have c3 := c1 m
      walk_at "rd"
      rw [e1, e2]
      exact fin
/-- of two fractions a third -/
def spR2 (K : PySem.W.Frag) (op : Rat → Rat → Rat) : Sp := fun vs H Q _ => ∃ (x y : V) (p q : Rat), vs = [x, y] ∧ FrT K H x p ∧ FrT K H y q ∧ Qz 900000 p ∧ Qz 900000 q ∧ ∀ v H', Same H H' → FrT K H' v (op p q) → Q v H'
theorem sc_ratio_product : FnScope ["one", "other"] ["one", "other"] (defScope s_ratio_product) := ⟨rfl, rfl, rfl, by decide +kernel, rfl, by decide +kernel, by decide +kernel⟩
theorem d_ratio_product (W : FunIn K mg "ratio_product" s_ratio_product) (Dratio : Df P w K mg base "ratio" 33 ["number", "under"] (spRatio K)) : Df P w K mg base "ratio_product" 34 ["one", "other"] (spR2 K (fun p q => p * q)) := by
  obtain ⟨f, fd, F, hm⟩ := W
  refine ⟨f, fd, F.ok sc_ratio_product (fun vs H Q E h => ?_) (fun cdv A outer s H vs Q E hr h => ?_), hm, F.kp, F.binds fun _ _ _ _ _ _ us hl => match us, hl with | [_, _], _ => rfl⟩
  · obtain ⟨x, y, p, q, rfl, _⟩ := h
    rfl
  · obtain ⟨x, y, p, r, rfl, ⟨a, rfl, ha⟩, ⟨b, rfl, hb⟩, zp, zr, q⟩ := h
    have nd := sc_ratio_product.nd
    have b1 := zp.n
    have b2 := zp.dd
    have b3 := zr.n
    have b4 := zr.dd
    have hd : (p.den : Int) * (r.den : Int) ≠ 0 := Int.mul_ne_zero (by have := p.den_nz; omega) (by have := r.den_nz; omega)
    refine ⟨_, (pss_one (ps_ret (pe_d Dratio (hr.mono (by decide)) rfl (pa_cons (pe_op op_mulX (pe_ix ix_tup (pv 0) pe_int (fun _ _ => rfl)) (pe_ix ix_tup (pv 1) pe_int (fun _ _ => rfl))) (pa_cons (pe_op op_mulX (pe_ix ix_tup (pv 0) pe_int (fun _ _ => rfl)) (pe_ix ix_tup (pv 1) pe_int (fun _ _ => rfl))) pa_nil))))), ?_⟩
    walk_at "rd"
    rw [fr_mul]
    exact q
end

end Vx
-- pyl
-- big
set_option Elab.async false
set_option linter.all false
set_option maxRecDepth 100000
set_option maxHeartbeats 4000000
namespace Vx
open PySem PySem.Spec PyProof.Rows L2
local macro_rules | `(tactic| walk_at "cl") => `(tactic| first | assumption | exact Bz.mono (Bz.mul (by assumption) (by assumption)) (by decide) | rfl | omega | exact sz_of 0 rfl (by decide) | exact sz_of 1 rfl (by decide) | exact sz_of 2 rfl (by decide) | exact sz_of 3 rfl (by decide) | exact cmuly (by assumption) (by assumption) (by decide) | exact Bz.mono (Bz.mul (by assumption) (by assumption)) (by decide) | decide)
local macro_rules | `(tactic| walk_at "ex") => `(tactic| ((show Exists _); first | apply @Exists.intro V | apply @Exists.intro Int | apply @Exists.intro Addr | apply @Exists.intro (List V) | apply @Exists.intro Nat | apply @Exists.intro Str | apply @Exists.intro Bool | apply @Exists.intro (Option V) | apply @Exists.intro String | apply @Exists.intro Rat | apply @Exists.intro (List Rat)))
local macro_rules | `(tactic| walk_at "rd") => `(tactic| ((repeat (first | (walk_at "ex") | (apply And.intro; (focus (walk_at "cl"))))); (try dsimp only [])))
local macro_rules | `(tactic| walk_at "r0") => `(tactic| (repeat (first | (walk_at "ex") | (apply And.intro; (focus (walk_at "cl"))))))

section
variable {P : Program} {w : World} {K : PySem.W.Frag} {mg : Str → Option Value} {base : Heap}
/-- without_end of fractions -/
def spEndF (K : PySem.W.Frag) : Sp := fun vs H Q _ => ∃ (l : Addr) (aN : Addr) (us : List V) (qs : List Rat), vs = [.ref l, .ref aN] ∧ SqL K H l us ∧ FrA K H us qs ∧ FrT K H (.ref aN) 0 ∧ us.length < 1000 ∧
  ∀ p m, H p = none → m ≤ us.length → Tr (qs.take m) → (∀ c ∈ qs.drop m, c = 0) → Q (.ref p) (upd H p (.lst (us.take m)))
theorem sc_without_end : FnScope ["numbers", "nought", "many"] ["numbers", "nought"] (defScope s_without_end) := ⟨rfl, rfl, rfl, by decide +kernel, rfl, by decide +kernel, by decide +kernel⟩
theorem d_without_end (W : FunIn K mg "without_end" s_without_end) (T : Blt mg) : Df P w K mg base "without_end" 33 ["numbers", "nought"] (spEndF K) := by
  obtain ⟨f, fd, F, hm⟩ := W
  refine ⟨f, fd, F.ok sc_without_end (fun vs H Q E h => ?_) (fun cdv A outer s H vs Q E hr h => ?_), hm, F.kp, F.binds fun _ _ _ _ _ _ us hl => match us, hl with | [_, _], _ => rfl⟩
  · obtain ⟨l, aN, us, qs, rfl, _⟩ := h
    rfl
  · obtain ⟨l, aN, us, qs, rfl, hl, hA, hN, hlen, q⟩ := h
    have nd := sc_without_end.nd
    have hL := hA.length
    refine ⟨_, (pss_cons (ps_set (i := 2) nd rfl (Or.inl rfl) (pe_callB call_len_seq (by rfl) T.n_len (by decide +kernel) (pa_cons (pv 0) pa_nil)))
        (pss_cons (ps_while PassesOwn.never (PW.pt (pw_and (pt_cmpR op_gt (pv 2) pe_int (nomark _)) (pw_and1 (pt_cmpR (op_eqD (hu64 hr)) (pe_ix ix_list (pv 0) (pe_op op_sub (pv 2) pe_int) (fun _ _ => rfl)) (pv 1) (nomark _))))) (pss_one (ps_aug (i := 2) nd rfl (Or.inl rfl) pe_int ip_sub)))
        (pss_one (ps_ret (pe_slice sl_list (pv 0) po_none (po_some (pv 2))))))), ?_⟩
    have hlr : SqL K H l us ∨ SqT K H l us := Or.inl hl
    walk_at "rd"
    refine ⟨fun m σ H' => σ = [some (.ref l), some (.ref aN), some (.int (m : Int))] ∧ H' = H ∧ m ≤ us.length ∧ ∀ c ∈ qs.drop m, c = 0, ⟨us.length, rfl, rfl, Nat.le_refl _, fun c hc => ?_⟩, ?_⟩
    · rw [hL, List.drop_length] at hc
      cases hc
    · rintro m σ H' ⟨rfl, rfl, hm1, hz⟩
      walk_at "rd"
      refine tif (fun h0 => ?_) (fun h0 => ?_)
      · have h0' : 0 < m := by omega
        obtain ⟨u, hu⟩ : ∃ u, us[m - 1]? = some u := ⟨_, List.getElem?_eq_getElem (by omega)⟩
        obtain ⟨r, hr1, hfr⟩ := hA.get hu
        have hat : atI us ((m : Int) - 1) = some u := at_of (j := m - 1) (by omega) hu
        have hr2 : qs[m - 1]'(by omega) = r := by
          rw [List.getElem?_eq_getElem (by omega)] at hr1
          exact Option.some.inj hr1
        walk_at "rd"
        refine rEqD_fr hfr hN ?_
        walk_at "rd"
        refine tif (fun he => ?_) (fun he => ?_)
        · refine ⟨fun σ' H'' => σ' = [some (.ref l), some (.ref aN), some (.int ((m - 1 : Nat) : Int))] ∧ H'' = H', ?_, ?_⟩
          · rintro σ' H'' ⟨rfl, rfl⟩
            refine ⟨m - 1, by omega, rfl, rfl, by omega, fun c hc => ?_⟩
            have e1 : qs.drop (m - 1) = r :: qs.drop m := by
              rw [List.drop_eq_getElem_cons (by omega), hr2, Nat.sub_add_cancel h0']
            rw [e1] at hc
            rcases List.mem_cons.mp hc with z | z
            · rw [z, he]
            · exact hz c z
          · have em : (m : Int) - 1 = ((m - 1 : Nat) : Int) := by omega
            walk_at "rd"
            rw [em]
            exact ⟨rfl, rfl⟩
        · walk_at "rd"
          rw [cutV_take hm1]
          exact fun p hp => q p m hp hm1 (tr_take_of h0' (by omega) (by rw [hr2]; exact he)) hz
      · have m0 : m = 0 := by omega
        subst m0
        walk_at "rd"
        rw [cutV_take hm1]
        exact fun p hp => q p 0 hp hm1 tr_nil hz
/-- trimmed: the row of some fractions -/
def spTrim (K : PySem.W.Frag) : Sp := fun vs H Q _ => ∃ (l : Addr) (us : List V) (qs : List Rat), vs = [.ref l] ∧ SqL K H l us ∧ FrA K H us qs ∧ us.length < 1000 ∧
  ∀ v H' m, Same H H' → Tr (qs.take m) → (∀ c ∈ qs.drop m, c = 0) → RwT K H' v (qs.take m) → Q v H'
theorem sc_trimmed : FnScope ["fractions"] ["fractions"] (defScope s_trimmed) := ⟨rfl, rfl, rfl, by decide +kernel, rfl, by decide +kernel, by decide +kernel⟩
theorem d_trimmed {aNIL : Addr} (W : FunIn K mg "trimmed" s_trimmed) (T : Blt mg) (hNIL : NilC K mg aNIL) (Dwithout_end : Df P w K mg base "without_end" 33 ["numbers", "nought"] (spEndF K)) : Df P w K mg base "trimmed" 34 ["fractions"] (spTrim K) := by
  obtain ⟨f, fd, F, hm⟩ := W
  refine ⟨f, fd, F.ok sc_trimmed (fun vs H Q E h => ?_) (fun cdv A outer s H vs Q E hr h => ?_), hm, F.kp, F.binds fun _ _ _ _ _ _ us hl => match us, hl with | [_], _ => rfl⟩
  · obtain ⟨l, us, qs, rfl, _⟩ := h
    rfl
  · obtain ⟨l, us, qs, rfl, hl, hA, hlen, q⟩ := h
    have nd := sc_trimmed.nd
    have hN := hNIL.fr H
    refine ⟨_, (pss_one (ps_ret (pe_callTy call_tuple_of (by rfl) T.n_tuple (by decide +kernel) (pa_cons (pe_d Dwithout_end (hr.mono (by decide)) rfl (pa_cons (pv 0) (pa_cons (pe_glob (v := .ref aNIL) rfl hNIL.g rfl) pa_nil))) pa_nil)))), ?_⟩
    walk_at "rd"
    intro p m hp hm1 ht hz
    have s1 := same_new (o := .lst (us.take m)) hp
    have e1 : upd H p (.lst (us.take m)) p = some (.lst (us.take m)) := upd_same
    generalize upd H p (.lst (us.take m)) = H1 at s1 e1
    refine ⟨_, _, rfl, Or.inl ⟨SqL.of e1, fun t ht' => ?_⟩⟩
    exact q _ _ m (s1.trans (same_new ht')) ht hz ⟨t, us.take m, rfl, SqT.of upd_same, fra_mono (same_t (s1.trans (same_new ht'))) (hA.take m)⟩
end

end Vx
-- pyl
-- big
set_option Elab.async false
set_option linter.all false
set_option maxRecDepth 100000
set_option maxHeartbeats 4000000
namespace Vx
open PySem PySem.Spec PyProof.Rows L2
local macro_rules | `(tactic| walk_at "cl") => `(tactic| first | assumption | exact Bz.mono (Bz.mul (by assumption) (by assumption)) (by decide) | rfl | omega | exact sz_of 0 rfl (by decide) | exact sz_of 1 rfl (by decide) | exact sz_of 2 rfl (by decide) | exact sz_of 3 rfl (by decide) | exact cmuly (by assumption) (by assumption) (by decide) | exact Bz.mono (Bz.mul (by assumption) (by assumption)) (by decide) | decide)
local macro_rules | `(tactic| walk_at "ex") => `(tactic| ((show Exists _); first | apply @Exists.intro V | apply @Exists.intro Int | apply @Exists.intro Addr | apply @Exists.intro (List V) | apply @Exists.intro Nat | apply @Exists.intro Str | apply @Exists.intro Bool | apply @Exists.intro (Option V) | apply @Exists.intro String | apply @Exists.intro Rat | apply @Exists.intro (List Rat)))
local macro_rules | `(tactic| walk_at "rd") => `(tactic| ((repeat (first | (walk_at "ex") | (apply And.intro; (focus (walk_at "cl"))))); (try dsimp only [])))
local macro_rules | `(tactic| walk_at "r0") => `(tactic| (repeat (first | (walk_at "ex") | (apply And.intro; (focus (walk_at "cl"))))))

section
variable {P : Program} {w : World} {K : PySem.W.Frag} {mg : Str → Option Value} {base : Heap}
/-- cleared: the numbers over one common divisor -/
def spClear (K : PySem.W.Frag) : Sp := fun vs H Q _ => ∃ (x : V) (qs : List Rat) (b : Nat), vs = [x] ∧ RwT K H x qs ∧ Qs b qs ∧ qs.length < 1000 ∧ (qs.length + 1) * b + 1 ≤ 8000 ∧
  ∀ (t l : Addr) (ns : List Int) (D : Int) (H' : Hp), Same H H' → SqT K H' t [.ref l, .int D] → H' l = some (.lst (ns.map V.int)) → ns.length = qs.length → 0 < D → Bz (qs.length * b + 1) D →
    (∀ n ∈ ns, Bz (b + (qs.length * b + 1)) n) → ns.map (fun (n : Int) => (n : Rat)) = qs.map ((D : Rat) * ·) → Q (.ref t) H'
theorem sc_cleared : FnScope ["row", "under", "fraction", "number", "part"] ["row"] (defScope s_cleared) := ⟨rfl, rfl, rfl, by decide +kernel, rfl, by decide +kernel, by decide +kernel⟩
theorem d_cleared (W : FunIn K mg "cleared" s_cleared) (T : Blt mg) (gl : mg "lcm" = some (.builtin "math.lcm")) : Df P w K mg base "cleared" 33 ["row"] (spClear K) := by
  obtain ⟨f, fd, F, hm⟩ := W
  refine ⟨f, fd, F.ok sc_cleared (fun vs H Q E h => ?_) (fun cdv A outer s H vs Q E hr h => ?_), hm, F.kp, F.binds fun _ _ _ _ _ _ us hl => match us, hl with | [_], _ => rfl⟩
  · obtain ⟨x, qs, b, rfl, _⟩ := h
    rfl
  · obtain ⟨x, qs, b, rfl, ⟨a, us, rfl, ha, hA⟩, hz, hlen, hb, q⟩ := h
    have nd := sc_cleared.nd
    have hL := hA.length
    refine ⟨_, (pss_cons (ps_set (i := 1) nd rfl (Or.inr rfl) pe_int)
        (pss_cons (ps_for PassesOwn.never rfl (pi_tup (pv 0)) (pg_name (i := 2) nd rfl (Or.inl rfl) (Or.inr rfl)) (pss_one (ps_set (i := 1) nd rfl (Or.inr rfl) (pe_callBfun cr_lcm (by rfl) gl (pa_cons (pv 1) (pa_cons (pe_ix ix_tup (pv 2) pe_int (fun _ _ => rfl)) pa_nil))))))
        (pss_one (ps_ret (pe_tup (pa_cons (pe_lc (own := [("number", 3), ("part", 4)]) rfl nd (pi_tup (pv 0)) (blkOk_by (own := [("number", 3), ("part", 4)]) (N := ["row", "under", "fraction", "number", "part"]) (sc := defScope s_cleared) (by decide +kernel)) (fun _ _ _ _ _ => (pg_pair (K := K) (i := 3) (j := 4) rfl rfl nd rfl rfl rfl rfl)) (fun _ _ _ _ _ => pts_nil) (fun _ _ _ _ _ => (pe_op op_mulX (pv 3) (pe_op op_fdivX (pv 1) (pv 4))))) (pa_cons (pv 1) pa_nil))))))), ?_⟩
    refine ⟨V.ref a, rfl, a, rfl, ⟨us, ha⟩, for_tup (K := K) (a := a) (xs := us) (fun i σ H' => ∃ (D : Int) (o : Option V), σ = [some (.ref a), some (.int D), o, none, none] ∧ H' = H ∧ 0 < D ∧ Bz (i * b + 1) D ∧ ∀ j, j < i → ∀ c, qs[j]? = some c → (c.den : Int) ∣ D) ⟨1, none, rfl, rfl, by decide, by unfold Bz; rw [Nat.zero_mul]; decide, fun j hj => absurd hj (Nat.not_lt_zero _)⟩ (fun i σ H' _ ⟨_, _, _, e, _⟩ => by rw [e]; exact ha) ?_ ?_⟩
    · rintro i u σ H' hu ⟨D, o, rfl, rfl, hD0, hDz, hdv⟩
      obtain ⟨c, hc, ⟨e, rfl, he⟩⟩ := hA.get hu
      have hi : i < us.length := (List.getElem?_eq_some_iff.mp hu).1
      have hcz : Qz b c := hz c (List.mem_of_getElem? hc)
      have le1 : i * b + 1 + b ≤ qs.length * b + 1 := by
        have := Nat.mul_le_mul_right b (show i + 1 ≤ qs.length by omega)
        rw [Nat.add_mul, Nat.one_mul] at this
        omega
      have le2 : qs.length * b + b = (qs.length + 1) * b := by rw [Nat.add_mul, Nat.one_mul]
      have z1 : Bz 9000 D := hDz.mono (by omega)
      have z2 : Bz 9000 (c.den : Int) := hcz.dd.mono (by omega)
      refine ⟨_, rfl, ?_⟩
      walk_at "rd"
      refine ⟨lcm_pos' hD0 c.den_nz, ?_, fun j hj c' hc' => ?_⟩
      · rw [Nat.add_mul, Nat.one_mul, Nat.add_right_comm]
        exact lcm_bz hD0 hDz hcz.2
      · rcases Nat.lt_or_eq_of_le (Nat.le_of_lt_succ hj) with hj | rfl
        · exact lcm_left (hdv j hj c' hc')
        · rw [hc] at hc'
          cases hc'
          exact lcm_right
    · rintro σ H' ⟨D, o, rfl, rfl, hD0, hDz, hdv⟩
      rw [hL] at hDz hdv
      refine ⟨V.ref a, rfl, a, rfl, ⟨us, ha⟩, fun l hl => lc_map (walk_tup (K := K) (a := a) (xs := us)) hl (by rw [sizeLine_eq]; omega) (fun i _ v => ∃ c, qs[i]? = some c ∧ v = .int (c.num * D.fdiv (c.den : Int))) (fun _ _ _ _ _ h => h) (fun H1 s1 => same_seqT s1 ha) ?_ ?_⟩
      · rintro i u H1 H2 hi s1 _ ⟨rfl, hu⟩ Fin hF
        obtain ⟨c, hc, ⟨e, rfl, he⟩⟩ := hA.get hu
        have hcz : Qz b c := hz c (List.mem_of_getElem? hc)
        have he1 := same_seqT s1 he
        have le2 : qs.length * b + b = (qs.length + 1) * b := by rw [Nat.add_mul, Nat.one_mul]
        have c1 : CDivX D (c.den : Int) := cdivx (by have := c.den_nz; omega) (hcz.dd.mono (by omega)) (Nat.le_refl 9000)
        have c2 : CMulX c.num (D.fdiv (c.den : Int)) := cmuly (a := b) (b := qs.length * b + 1) hcz.n (by
          unfold Bz at *
          rw [Int.fdiv_eq_ediv_of_nonneg _ (by omega)]
          exact Nat.lt_of_le_of_lt (Int.natAbs_ediv_le_natAbs _ _) hDz) (by omega)
        walk_at "rd"
        exact hF _ _ (Same.refl _) ⟨c, hc, rfl⟩
      · rintro H1 acc s1 hacc hlen1 hel
        have hex : acc = ((qs.map fun c => c.num * D.fdiv (c.den : Int)) : List Int).map V.int := by
          refine List.ext_getElem? fun i => ?_
          by_cases hi : i < acc.length
          · obtain ⟨c, hc, hv⟩ := hel i _ (List.getElem?_eq_getElem hi)
            rw [List.getElem?_eq_getElem hi, hv, List.getElem?_map, List.getElem?_map, hc]
            rfl
          · rw [List.getElem?_eq_none (by omega), List.getElem?_eq_none (by simp only [List.length_map]; omega)]
        walk_at "rd"
        intro t ht
        have s2 := same_new (o := .tup [.ref l, .int D]) ht
        refine q t l (qs.map fun c => c.num * D.fdiv (c.den : Int)) D _ (s1.trans s2) (SqT.of upd_same) (by rw [← hex]; exact s2 _ _ hacc) (List.length_map _) hD0 hDz (fun n hn => ?_) ?_
        · obtain ⟨c, hc, rfl⟩ := List.mem_map.mp hn
          exact clear_bz hD0 hDz (hz c hc)
        · rw [List.map_map]
          refine List.map_congr_left fun c hc => ?_
          obtain ⟨j, hj⟩ := List.mem_iff_getElem?.mp hc
          exact clear_eq (hdv j (List.getElem?_eq_some_iff.mp hj).1 c hj)
end
section
variable {P : Program} {w : World} {K : PySem.W.Frag} {mg : Str → Option Value} {base : Heap}
/-- row_over: the row of whole numbers over one -/
def spOver (K : PySem.W.Frag) : Sp := fun vs H Q _ => ∃ (l : Addr) (ns : List Int) (m : Int), vs = [.ref l, .int m] ∧ SqL K H l (ns.map V.int) ∧ m ≠ 0 ∧ Bz 1900000 m ∧ ns.length < 1000 ∧
  ∀ v r H', Same H H' → RwT K H' v r → Tr r → (∀ x, ev r x = ev (toR ns) x / (m : Rat)) → (∀ b, (∀ n ∈ ns, Bz b n) → Bz b m → Qs b r) → r.length ≤ ns.length → Q v H'
theorem sc_row_over : FnScope ["numbers", "under", "number"] ["numbers", "under"] (defScope s_row_over) := ⟨rfl, rfl, rfl, by decide +kernel, rfl, by decide +kernel, by decide +kernel⟩
theorem d_row_over (W : FunIn K mg "row_over" s_row_over) (Dratio : Df P w K mg base "ratio" 33 ["number", "under"] (spRatio K)) (Dtrimmed : Df P w K mg base "trimmed" 34 ["fractions"] (spTrim K)) : Df P w K mg base "row_over" 35 ["numbers", "under"] (spOver K) := by
  obtain ⟨f, fd, F, hm⟩ := W
  refine ⟨f, fd, F.ok sc_row_over (fun vs H Q E h => ?_) (fun cdv A outer s H vs Q E hr h => ?_), hm, F.kp, F.binds fun _ _ _ _ _ _ us hl => match us, hl with | [_, _], _ => rfl⟩
  · obtain ⟨l, ns, m, rfl, _⟩ := h
    rfl
  · obtain ⟨l, ns, m, rfl, hl, hm0, hmz, hlen, q⟩ := h
    have nd := sc_row_over.nd
    refine ⟨_, (pss_one (ps_ret (pe_d Dtrimmed (hr.mono (by decide)) rfl (pa_cons (pe_lc (own := [("number", 2)]) rfl nd (pi_list (pv 0)) (blkOk_by (own := [("number", 2)]) (N := ["numbers", "under", "number"]) (sc := defScope s_row_over) (by decide +kernel)) (fun _ _ _ _ _ => (pg_name (i := 2) nd rfl (Or.inl rfl) (Or.inr rfl))) (fun _ _ _ _ _ => pts_nil) (fun _ _ _ _ _ => (pe_d Dratio (hr.mono (by decide)) rfl (pa_cons (pv 2) (pa_cons (pv 1) pa_nil))))) pa_nil)))), ?_⟩
    refine ⟨V.ref l, rfl, l, rfl, ⟨_, hl⟩, fun D hD => lc_map (walk_list (K := K) (a := l) (xs := ns.map V.int)) hD (by rw [sizeLine_eq, List.length_map]; omega) (fun i H v => ∃ n, ns[i]? = some n ∧ FrT K H v (Rat.divInt n m)) (fun i H H' v e ⟨n, h1, h2⟩ => ⟨n, h1, h2.mono e⟩) (fun H1 s1 => s1.seq hl) ?_ ?_⟩
    · rintro i u H1 H2 hi s1 _ ⟨rfl, hu⟩ Fin hF
      rw [List.getElem?_map] at hu
      obtain ⟨n, hn, rfl⟩ := Option.map_eq_some_iff.mp hu
      walk_at "rd"
      exact fun v H' s2 hv => hF _ _ s2 ⟨n, hn, hv⟩
    · intro H1 acc s1 hacc hlen1 hel
      rw [List.length_map] at hlen1
      have hA : FrA K H1 acc (ns.map fun n => Rat.divInt n m) := by
        refine Al.of (by rw [List.length_map, hlen1]) fun i v c h1 h2 => ?_
        obtain ⟨n, hn, hv⟩ := hel i v h1
        rw [List.getElem?_map, hn] at h2
        cases h2
        exact hv
      refine ⟨D, acc, _, rfl, SqL.of hacc, hA, by omega, fun v H' k s2 ht hz hv => ?_⟩
      refine q v _ H' (s1.trans s2) hv ht (fun x => ?_) (fun b hb hbm c hc => ?_) ?_
      · rw [ev_take_drop _ _ hz, ev_toR_div _ hm0]
      · obtain ⟨n, hn, rfl⟩ := List.mem_map.mp (List.mem_of_mem_take hc)
        exact Qz.of_div (hb n hn) hbm hm0
      · rw [List.length_take, List.length_map]
        omega
/-- padded: noughts behind a row -/
def spPad (K : PySem.W.Frag) : Sp := fun vs H Q _ => ∃ (x : V) (qs : List Rat) (m : Nat), vs = [x, .int (m : Int)] ∧ RwT K H x qs ∧ qs.length ≤ m ∧ m ≤ 1000 ∧
  ∀ v H', Same H H' → RwT K H' v (qs ++ List.replicate (m - qs.length) 0) → Q v H'
end

end Vx
-- pyl
-- big
set_option Elab.async false
set_option linter.all false
set_option maxRecDepth 100000
set_option maxHeartbeats 4000000
namespace Vx
open PySem PySem.Spec PyProof.Rows L2
local macro_rules | `(tactic| walk_at "cl") => `(tactic| first | assumption | exact Bz.mono (Bz.mul (by assumption) (by assumption)) (by decide) | rfl | omega | exact sz_of 0 rfl (by decide) | exact sz_of 1 rfl (by decide) | exact sz_of 2 rfl (by decide) | exact sz_of 3 rfl (by decide) | exact cmuly (by assumption) (by assumption) (by decide) | exact Bz.mono (Bz.mul (by assumption) (by assumption)) (by decide) | decide)
local macro_rules | `(tactic| walk_at "ex") => `(tactic| ((show Exists _); first | apply @Exists.intro V | apply @Exists.intro Int | apply @Exists.intro Addr | apply @Exists.intro (List V) | apply @Exists.intro Nat | apply @Exists.intro Str | apply @Exists.intro Bool | apply @Exists.intro (Option V) | apply @Exists.intro String | apply @Exists.intro Rat | apply @Exists.intro (List Rat)))
local macro_rules | `(tactic| walk_at "rd") => `(tactic| ((repeat (first | (walk_at "ex") | (apply And.intro; (focus (walk_at "cl"))))); (try dsimp only [])))
local macro_rules | `(tactic| walk_at "r0") => `(tactic| (repeat (first | (walk_at "ex") | (apply And.intro; (focus (walk_at "cl"))))))

section
variable {P : Program} {w : World} {K : PySem.W.Frag} {mg : Str → Option Value} {base : Heap}
/-- of two rows a third, number by number -/
def spRows (K : PySem.W.Frag) (op : Rat → Rat → Rat) : Sp := fun vs H Q _ => ∃ (x y : V) (ps qs : List Rat) (b : Nat), vs = [x, y] ∧ RwT K H x ps ∧ RwT K H y qs ∧ Qs b ps ∧ Qs b qs ∧ 0 < b ∧ b ≤ 900000 ∧ ps.length < 900 ∧ qs.length < 900 ∧
  ∀ v r H', Same H H' → RwT K H' v r → Tr r → (∀ z, ev r z = op (ev ps z) (ev qs z)) → Qs (b + b + 1) r → r.length ≤ max ps.length qs.length → Q v H'
theorem ev_zip_add (a b : List Rat) (h : a.length = b.length) (x : Rat) : ev ((List.range a.length).map fun i => a.getD i 0 + b.getD i 0) x = ev a x + ev b x := by
  induction a generalizing b with
  | nil =>
    cases b with
    | nil => show (0 : Rat) = 0 + 0; grind
    | cons d b => cases h
  | cons c a ih =>
    cases b with
    | nil => cases h
    | cons d b =>
      rw [List.length_cons, List.range_succ_eq_map, List.map_cons, List.map_map]
      show (c + d) + x * ev ((List.range a.length).map fun i => a.getD i 0 + b.getD i 0) x = (c + x * ev a x) + (d + x * ev b x)
      rw [ih b (by simpa using h)]
      grind
theorem ev_zip_sub (a b : List Rat) (h : a.length = b.length) (x : Rat) : ev ((List.range a.length).map fun i => a.getD i 0 - b.getD i 0) x = ev a x - ev b x := by
  induction a generalizing b with
  | nil =>
    cases b with
    | nil => show (0 : Rat) = 0 - 0; grind
    | cons d b => cases h
  | cons c a ih =>
    cases b with
    | nil => cases h
    | cons d b =>
      rw [List.length_cons, List.range_succ_eq_map, List.map_cons, List.map_map]
      show (c - d) + x * ev ((List.range a.length).map fun i => a.getD i 0 - b.getD i 0) x = (c + x * ev a x) - (d + x * ev b x)
      rw [ih b (by simpa using h)]
      grind
theorem ev_pad (a : List Rat) (n : Nat) (x : Rat) : ev (a ++ List.replicate n 0) x = ev a x := by
  rw [ev_append, ev_replicate0]
  grind
theorem getD_some {α : Type} {l : List α} {i : Nat} {a d : α} (h : l[i]? = some a) : l.getD i d = a := by
  rw [List.getD_eq_getElem?_getD, h]
  rfl
theorem qs_pad {b n : Nat} {a : List Rat} (h : Qs b a) (hb : 0 < b) : Qs b (a ++ List.replicate n 0) := fun c hc => by
  rcases List.mem_append.mp hc with z | z
  · exact h c z
  · rw [(List.mem_replicate.mp z).2]
    exact qz0 hb
end

end Vx
-- pyl
-- big
set_option Elab.async false
set_option linter.all false
set_option maxRecDepth 100000
set_option maxHeartbeats 4000000
namespace Vx
open PySem PySem.Spec PyProof.Rows L2
local macro_rules | `(tactic| walk_at "cl") => `(tactic| first | assumption | exact Bz.mono (Bz.mul (by assumption) (by assumption)) (by decide) | rfl | omega | exact sz_of 0 rfl (by decide) | exact sz_of 1 rfl (by decide) | exact sz_of 2 rfl (by decide) | exact sz_of 3 rfl (by decide) | exact cmuly (by assumption) (by assumption) (by decide) | exact Bz.mono (Bz.mul (by assumption) (by assumption)) (by decide) | decide)
local macro_rules | `(tactic| walk_at "ex") => `(tactic| ((show Exists _); first | apply @Exists.intro V | apply @Exists.intro Int | apply @Exists.intro Addr | apply @Exists.intro (List V) | apply @Exists.intro Nat | apply @Exists.intro Str | apply @Exists.intro Bool | apply @Exists.intro (Option V) | apply @Exists.intro String | apply @Exists.intro Rat | apply @Exists.intro (List Rat)))
local macro_rules | `(tactic| walk_at "rd") => `(tactic| ((repeat (first | (walk_at "ex") | (apply And.intro; (focus (walk_at "cl"))))); (try dsimp only [])))
local macro_rules | `(tactic| walk_at "r0") => `(tactic| (repeat (first | (walk_at "ex") | (apply And.intro; (focus (walk_at "cl"))))))

section
variable {P : Program} {w : World} {K : PySem.W.Frag} {mg : Str → Option Value} {base : Heap}
/-- whole_product -/
def spWProd (K : PySem.W.Frag) : Sp := fun vs H Q _ => ∃ (l1 l2 : Addr) (ns ms : List Int) (a b : Nat), vs = [.ref l1, .ref l2] ∧ SqL K H l1 (ns.map V.int) ∧ SqL K H l2 (ms.map V.int) ∧ (∀ n ∈ ns, Bz a n) ∧ (∀ m ∈ ms, Bz b m) ∧ a + b ≤ 10000000 ∧ ns.length < 1000 ∧ ms.length < 1000 ∧
  ∀ (p : Addr) (rs : List Int) (H' : Hp), H p = none → Same H H' → H' p = some (.lst (rs.map V.int)) → rs.length = ns.length + ms.length → (∀ x, ev (toR rs) x = ev (toR ns) x * ev (toR ms) x) → (∀ r ∈ rs, Bz (a + b + 10) r) → Q (.ref p) H'
theorem sc_whole_product : FnScope ["ours", "theirs", "numbers", "i", "x", "j", "y"] ["ours", "theirs"] (defScope s_whole_product) := ⟨rfl, rfl, rfl, by decide +kernel, rfl, by decide +kernel, by decide +kernel⟩
theorem d_whole_product (W : FunIn K mg "whole_product" s_whole_product) (T : Blt mg) : Df P w K mg base "whole_product" 33 ["ours", "theirs"] (spWProd K) := by
  obtain ⟨f, fd, F, hm⟩ := W
  refine ⟨f, fd, F.ok sc_whole_product (fun vs H Q E h => ?_) (fun cdv A outer s H vs Q E hr h => ?_), hm, F.kp, F.binds fun _ _ _ _ _ _ us hl => match us, hl with | [_, _], _ => rfl⟩
  · obtain ⟨l1, l2, ns, ms, a, b, rfl, _⟩ := h
    rfl
  · obtain ⟨l1, l2, ns, ms, a, b, rfl, h1, h2, hza, hzb, hab, ln, lm, q⟩ := h
    have nd := sc_whole_product.nd
    have h1' : SqL K H l1 (ns.map V.int) ∨ SqT K H l1 (ns.map V.int) := Or.inl h1
    refine ⟨_, (pss_cons (ps_set (i := 2) nd rfl (Or.inl rfl) (pe_op op_rep (pe_lst (pa_cons pe_int pa_nil)) (pe_op op_add (pe_callB call_len_seq (by rfl) T.n_len (by decide +kernel) (pa_cons (pv 0) pa_nil)) (pe_callB call_len_seq (by rfl) T.n_len (by decide +kernel) (pa_cons (pv 1) pa_nil)))))
        (pss_cons (ps_for PassesOwn.never rfl (pi_enum (by rfl) T.n_enumerate (pa_cons (pv 0) pa_nil)) (pg_tup rfl (pgs_cons (pg_name (i := 3) nd rfl (Or.inl rfl) (Or.inr rfl)) (pgs_cons (pg_name (i := 4) nd rfl (Or.inl rfl) (Or.inr rfl)) pgs_nil))) (pss_one (ps_for PassesOwn.never rfl (pi_enum (by rfl) T.n_enumerate (pa_cons (pv 1) pa_nil)) (pg_tup rfl (pgs_cons (pg_name (i := 5) nd rfl (Or.inl rfl) (Or.inr rfl)) (pgs_cons (pg_name (i := 6) nd rfl (Or.inl rfl) (Or.inr rfl)) pgs_nil))) (pss_one (ps_augS (pv 2) (pe_op op_add (pv 3) (pv 5)) get_list (pe_op op_mulX (pv 4) (pv 6)) ip_add set_list)))))
        (pss_one (ps_ret (pv 2))))), ?_⟩
    walk_at "rd"
    intro p0 hp0
    have s0 := same_new (o := .lst [V.int 0]) hp0
    have e0 : upd H p0 (.lst [V.int 0]) p0 = some (.lst [V.int 0]) := upd_same
    generalize upd H p0 (.lst [V.int 0]) = H0 at s0 e0
    have h1' : SqL K H0 l1 (ns.map V.int) ∨ SqT K H0 l1 (ns.map V.int) := Or.inl (s0.seq h1)
    have h2' : SqL K H0 l2 (ms.map V.int) ∨ SqT K H0 l2 (ms.map V.int) := Or.inl (s0.seq h2)
    have hlr : ((ns.map V.int).length : Int) + ((ms.map V.int).length : Int) = ((ns.length + ms.length : Nat) : Int) := by
      rw [List.length_map, List.length_map]
      omega
    walk_at "rd"
    rw [hlr]
    refine ⟨?_, fun p hp => ?_⟩
    · show 1 * _ ≤ _
      rw [Int.toNat_natCast, sizeLine_eq]
      omega
    have ef : (List.replicate ((ns.length + ms.length : Nat) : Int).toNat [V.int 0]).flatten = ((List.replicate (ns.length + ms.length) (0 : Int)).map V.int) := by
      rw [Int.toNat_natCast]
      generalize ns.length + ms.length = k
      induction k with
      | zero => rfl
      | succ k ih => rw [List.replicate_succ, List.flatten_cons, ih, List.replicate_succ]; rfl
    rw [ef]
    have hpH : H p = none := s0.free hp
    have s1 : Same H (upd H0 p (.lst ((List.replicate (ns.length + ms.length) (0 : Int)).map V.int))) := s0.trans (same_new hp)
    have e1 : upd H0 p (.lst ((List.replicate (ns.length + ms.length) (0 : Int)).map V.int)) p = some (.lst ((List.replicate (ns.length + ms.length) (0 : Int)).map V.int)) := upd_same
    generalize upd H0 p (.lst ((List.replicate (ns.length + ms.length) (0 : Int)).map V.int)) = H1 at s1 e1
    refine ⟨V.ref l1, rfl, l1, ns.map V.int, rfl, s1.seq h1, for_it (walk_enum (K := K) (a := l1) (xs := ns.map V.int)) (fun i σ H' => ∃ (rs : List Int) (o1 o2 o3 o4 : Option V), σ = [some (.ref l1), some (.ref l2), some (.ref p), o1, o2, o3, o4] ∧ Same H H' ∧ H' p = some (.lst (rs.map V.int)) ∧ rs.length = ns.length + ms.length ∧ (∀ x, ev (toR rs) x = ev (toR (ns.take i)) x * ev (toR ms) x) ∧ ∀ r ∈ rs, r.natAbs ≤ i * 2 ^ (a + b))
      ⟨_, none, none, none, none, rfl, s1, e1, List.length_replicate, fun x => ?_, fun r hr => ?_⟩ (fun i σ H' _ ⟨_, _, _, _, _, _, s, _⟩ => s.seq h1) ?_ ?_⟩
    · rw [toR_rep, List.take_zero]
      show (0 : Rat) = 0 * _
      grind
    · rw [(List.mem_replicate.mp hr).2]
      exact Nat.zero_le _
    · rintro i _ σ H2 _ hi ⟨rs, o1, o2, o3, o4, rfl, s2, e2, lr, hev, hbd⟩ ⟨T1, _, y, rfl, hT1, rfl, ⟨⟩, hy⟩
      have hy : (ns.map V.int)[i]? = some y := hy
      rw [List.getElem?_map] at hy
      obtain ⟨n, hn, rfl⟩ := Option.map_eq_some_iff.mp hy
      rw [List.length_map] at hi
      have s3 := same_new (o := .tup [V.int (i : Nat), V.int n]) hT1
      have q1 : SqT K (upd H2 T1 (.tup [V.int (i : Nat), V.int n])) T1 [V.int (i : Nat), V.int n] := SqT.of upd_same
      have e3 := s3 _ _ e2
      have s23 := s2.trans s3
      generalize upd H2 T1 (.tup [V.int (i : Nat), V.int n]) = H3 at *
      refine ⟨T1, _, rfl, q1, rfl, _, _, rfl, _, _, rfl, rfl, ?_⟩
      refine ⟨V.ref l2, rfl, l2, ms.map V.int, rfl, s23.seq h2, for_it (walk_enum (K := K) (a := l2) (xs := ms.map V.int)) (fun j σ H' => ∃ (rs : List Int) (o3 o4 : Option V), σ = [some (.ref l1), some (.ref l2), some (.ref p), some (.int (i : Nat)), some (.int n), o3, o4] ∧ Same H H' ∧ H' p = some (.lst (rs.map V.int)) ∧ rs.length = ns.length + ms.length ∧ (∀ x, ev (toR rs) x = ev (toR (ns.take i)) x * ev (toR ms) x + (n : Rat) * x ^ i * ev (toR (ms.take j)) x) ∧ ∀ k r, rs[k]? = some r → r.natAbs ≤ (if k < i + j then i + 1 else i) * 2 ^ (a + b))
        ⟨rs, o3, o4, rfl, s23, e3, lr, fun x => ?_, fun k r hr => ?_⟩ (fun j σ H' _ ⟨_, _, _, _, s, _⟩ => s.seq h2) ?_ ?_⟩
      · rw [hev, List.take_zero]
        show _ = _ + _ * 0
        grind
      · refine Nat.le_trans (hbd r (List.mem_of_getElem? hr)) (Nat.mul_le_mul_right _ ?_)
        split <;> omega
      · rintro j _ σ H4 _ hj ⟨rs, o3, o4, rfl, s4, e4, lr, hev, hbd⟩ ⟨T2, _, y, rfl, hT2, rfl, ⟨⟩, hy⟩
        have hy : (ms.map V.int)[j]? = some y := hy
        rw [List.getElem?_map] at hy
        obtain ⟨m, hm', rfl⟩ := Option.map_eq_some_iff.mp hy
        rw [List.length_map] at hj
        have s5 := same_new (o := .tup [V.int (j : Nat), V.int m]) hT2
        have q2 : SqT K (upd H4 T2 (.tup [V.int (j : Nat), V.int m])) T2 [V.int (j : Nat), V.int m] := SqT.of upd_same
        have e5 := s5 _ _ e4
        have s45 := s4.trans s5
        generalize upd H4 T2 (.tup [V.int (j : Nat), V.int m]) = H5 at *
        have hk : i + j < rs.length := by omega
        have hr : rs[i + j]? = some rs[i + j] := List.getElem?_eq_getElem hk
        have hij : (i : Int) + (j : Int) = ((i + j : Nat) : Int) := by omega
        have z1 : Bz a n := hza n (List.mem_of_getElem? hn)
        have z2 : Bz b m := hzb m (List.mem_of_getElem? hm')
        have c1 : CMulX n m := cmuly z1 z2 hab
        have g1 : SqL K H5 p (rs.map V.int) := SqL.of e5
        have g2 : (rs.map V.int)[((i : Int) + (j : Int)).toNat]? = some (V.int rs[i + j]) := by
          rw [hij, Int.toNat_natCast, List.getElem?_map, hr]
          rfl
        have g3 : (0 : Int) ≤ (i : Int) + (j : Int) := by omega
        have g4 : ixN (rs.map V.int).length ((i : Int) + (j : Int)) = some (i + j) := by
          unfold ixN
          rw [List.length_map, hij]
          rw [if_pos (by omega)]
          show (if _ then _ else _) = _
          rw [if_pos (by omega)]
          exact congrArg some (by omega)
        have g5 : (rs.map V.int).set (i + j) (V.int (rs[i + j] + n * m)) = ((rs.set (i + j) (rs[i + j] + n * m)).map V.int) := by rw [List.map_set]
        refine ⟨T2, _, rfl, q2, rfl, _, _, rfl, _, _, rfl, rfl, ?_⟩
        walk_at "rd"
        rw [g5]
        refine ⟨rs.set (i + j) (rs[i + j] + n * m), _, _, rfl, fun c o e => ?_, upd_same, by rw [List.length_set]; exact lr, fun x => ?_, fun k r hr' => ?_⟩
        · rw [upd_ne (ne_of_none e hpH)]
          exact s45 _ _ e
        · rw [toR_set hk, hev, toR_take_succ hm', rpow_add]
          push_cast
          grind
        · rw [List.getElem?_set] at hr'
          split at hr'
          · rename_i hkk
            subst hkk
            cases hr'
            have b1 := hbd (i + j) _ hr
            rw [if_neg (by omega)] at b1
            rw [if_pos (by omega)]
            have b2 : (n * m).natAbs < 2 ^ (a + b) := Bz.mul z1 z2
            have b3 : (rs[i + j] + n * m).natAbs ≤ rs[i + j].natAbs + (n * m).natAbs := Int.natAbs_add_le _ _
            rw [Nat.add_mul, Nat.one_mul]
            omega
          · refine Nat.le_trans (hbd k r hr') (Nat.mul_le_mul_right _ ?_)
            split <;> split <;> omega
      · rintro σ H4 ⟨rs, o3, o4, rfl, s4, e4, lr, hev, hbd⟩
        refine ⟨rs, _, _, _, _, rfl, s4, e4, lr, fun x => ?_, fun r hr => ?_⟩
        · rw [hev, toR_take_succ hn, List.length_map, List.take_length]
          grind
        · obtain ⟨k, hk⟩ := List.mem_iff_getElem?.mp hr
          refine Nat.le_trans (hbd k r hk) (Nat.mul_le_mul_right _ ?_)
          split <;> omega
    · rintro σ H2 ⟨rs, o1, o2, o3, o4, rfl, s2, e2, lr, hev, hbd⟩
      rw [List.length_map] at hev hbd
      rw [List.take_length] at hev
      walk_at "rd"
      exact q p rs H2 hpH s2 e2 lr hev fun r hr => mul_le_pow (hbd r hr) ln
end
section
variable {P : Program} {w : World} {K : PySem.W.Frag} {mg : Str → Option Value} {base : Heap}
theorem toR_scale {ns : List Int} {qs : List Rat} {D : Rat} (h : ns.map (fun (n : Int) => (n : Rat)) = qs.map (D * ·)) (x : Rat) : ev (toR ns) x = D * ev qs x := by
  unfold toR
  rw [h, ev_scale]
/-- times -/
def bTimes (l1 b1 l2 b2 : Nat) : Nat := (l1 + 1) * b1 + (l2 + 1) * b2 + 12
def spTimes (K : PySem.W.Frag) : Sp := fun vs H Q _ => ∃ (x y : V) (ps qs : List Rat) (b1 b2 : Nat), vs = [x, y] ∧ RwT K H x ps ∧ RwT K H y qs ∧ Qs b1 ps ∧ Qs b2 qs ∧ ps.length < 400 ∧ qs.length < 400 ∧ bTimes ps.length b1 qs.length b2 ≤ 8000 ∧
  ∀ v r H', Same H H' → RwT K H' v r → Tr r → (∀ z, ev r z = ev ps z * ev qs z) → Qs (bTimes ps.length b1 qs.length b2) r → r.length ≤ ps.length + qs.length → Q v H'
theorem sc_times : FnScope ["row", "other", "ours", "under", "theirs", "unit"] ["row", "other"] (defScope s_times) := ⟨rfl, rfl, rfl, by decide +kernel, rfl, by decide +kernel, by decide +kernel⟩
theorem d_times (W : FunIn K mg "times" s_times) (Dcleared : Df P w K mg base "cleared" 33 ["row"] (spClear K)) (Dwhole_product : Df P w K mg base "whole_product" 33 ["ours", "theirs"] (spWProd K)) (Drow_over : Df P w K mg base "row_over" 35 ["numbers", "under"] (spOver K)) : Df P w K mg base "times" 36 ["row", "other"] (spTimes K) := by
  obtain ⟨f, fd, F, hm⟩ := W
  refine ⟨f, fd, F.ok sc_times (fun vs H Q E h => ?_) (fun cdv A outer s H vs Q E hr h => ?_), hm, F.kp, F.binds fun _ _ _ _ _ _ us hl => match us, hl with | [_, _], _ => rfl⟩
  · obtain ⟨x, y, ps, qs, b1, b2, rfl, _⟩ := h
    rfl
  · obtain ⟨x, y, ps, qs, b1, b2, rfl, hx, hy, zp, zq, lp, lq, hb, q⟩ := h
    have nd := sc_times.nd
    unfold bTimes at hb
    have m1 : (ps.length + 1) * b1 = ps.length * b1 + b1 := by rw [Nat.add_mul, Nat.one_mul]
    have m2 : (qs.length + 1) * b2 = qs.length * b2 + b2 := by rw [Nat.add_mul, Nat.one_mul]
    refine ⟨_, (pss_cons (ps_asg (pe_d Dcleared (hr.mono (by decide)) rfl (pa_cons (pv 0) pa_nil)) (pg_tup rfl (pgs_cons (pg_name (i := 2) nd rfl (Or.inl rfl) (Or.inr rfl)) (pgs_cons (pg_name (i := 3) nd rfl (Or.inl rfl) (Or.inr rfl)) pgs_nil))))
        (pss_cons (ps_asg (pe_d Dcleared (hr.mono (by decide)) rfl (pa_cons (pv 1) pa_nil)) (pg_tup rfl (pgs_cons (pg_name (i := 4) nd rfl (Or.inl rfl) (Or.inr rfl)) (pgs_cons (pg_name (i := 5) nd rfl (Or.inl rfl) (Or.inr rfl)) pgs_nil))))
        (pss_one (ps_ret (pe_d Drow_over (hr.mono (by decide)) rfl (pa_cons (pe_d Dwhole_product (hr.mono (by decide)) rfl (pa_cons (pv 2) (pa_cons (pv 4) pa_nil))) (pa_cons (pe_op op_mulX (pv 3) (pv 5)) pa_nil))))))), ?_⟩
    refine ⟨x, rfl, x, ps, b1, rfl, hx, zp, by omega, by omega, fun t1 l1 ns D1 H1 s1 ht1 hl1 hn1 hD1 hz1 hzn1 he1 => ?_⟩
    refine ⟨t1, _, rfl, ht1, rfl, _, _, rfl, _, _, rfl, rfl, ?_⟩
    have hy1 := RwT.mono (same_t s1) hy
    refine ⟨y, rfl, y, qs, b2, rfl, hy1, zq, by omega, by omega, fun t2 l2 ms D2 H2 s2 ht2 hl2 hn2 hD2 hz2 hzn2 he2 => ?_⟩
    refine ⟨t2, _, rfl, ht2, rfl, _, _, rfl, _, _, rfl, rfl, ?_⟩
    have hl1' : SqL K H2 l1 (ns.map V.int) := s2.seq (SqL.of hl1)
    have hl2' : SqL K H2 l2 (ms.map V.int) := SqL.of hl2
    refine ⟨_, rfl, _, rfl, l1, l2, ns, ms, _, _, rfl, hl1', hl2', hzn1, hzn2, by omega, by omega, by omega, fun p rs H3 hp s3 e3 lr hev hbd => ?_⟩
    have c1 : CMulX D1 D2 := cmuly hz1 hz2 (by omega)
    have hDD : D1 * D2 ≠ 0 := Int.mul_ne_zero (by omega) (by omega)
    have hDz : Bz 1900000 (D1 * D2) := (Bz.mul hz1 hz2).mono (by omega)
    have e3' : SqL K H3 p (rs.map V.int) := SqL.of e3
    refine ⟨_, rfl, _, rfl, D1, D2, rfl, rfl, c1, ?_⟩
    refine ⟨p, rs, D1 * D2, rfl, e3', hDD, hDz, by omega, fun v r H4 s4 hv ht he hq hl => ?_⟩
    refine q v r H4 (((s1.trans s2).trans s3).trans s4) hv ht (fun z => ?_) ?_ (by omega)
    · rw [he, hev, toR_scale he1, toR_scale he2]
      have h1 : (D1 : Rat) ≠ 0 := by exact_mod_cast (show D1 ≠ 0 by omega)
      have h2 : (D2 : Rat) ≠ 0 := by exact_mod_cast (show D2 ≠ 0 by omega)
      push_cast
      grind
    · unfold bTimes
      refine hq _ (fun n hn => (hbd n hn).mono (by omega)) ((Bz.mul hz1 hz2).mono (by omega))
/-- worth_of -/
def bWorth (l b c : Nat) : Nat := l * (b + c + 1) + 1
def spWorth (K : PySem.W.Frag) : Sp := fun vs H Q _ => ∃ (x y : V) (qs : List Rat) (z : Rat) (b c : Nat), vs = [x, y] ∧ RwT K H x qs ∧ FrT K H y z ∧ Qs b qs ∧ Qz c z ∧ qs.length < 400 ∧ bWorth qs.length b c + b + c ≤ 900000 ∧
  ∀ v H', Same H H' → FrT K H' v (ev qs z) → Qz (bWorth qs.length b c) (ev qs z) → Q v H'
end

end Vx
-- pyl
-- big
set_option Elab.async false
set_option linter.all false
set_option maxRecDepth 100000
set_option maxHeartbeats 4000000
namespace Vx
open PySem PySem.Spec PyProof.Rows L2
local macro_rules | `(tactic| walk_at "cl") => `(tactic| first | assumption | exact Bz.mono (Bz.mul (by assumption) (by assumption)) (by decide) | rfl | omega | exact sz_of 0 rfl (by decide) | exact sz_of 1 rfl (by decide) | exact sz_of 2 rfl (by decide) | exact sz_of 3 rfl (by decide) | exact cmuly (by assumption) (by assumption) (by decide) | exact Bz.mono (Bz.mul (by assumption) (by assumption)) (by decide) | decide)
local macro_rules | `(tactic| walk_at "ex") => `(tactic| ((show Exists _); first | apply @Exists.intro V | apply @Exists.intro Int | apply @Exists.intro Addr | apply @Exists.intro (List V) | apply @Exists.intro Nat | apply @Exists.intro Str | apply @Exists.intro Bool | apply @Exists.intro (Option V) | apply @Exists.intro String | apply @Exists.intro Rat | apply @Exists.intro (List Rat)))
local macro_rules | `(tactic| walk_at "rd") => `(tactic| ((repeat (first | (walk_at "ex") | (apply And.intro; (focus (walk_at "cl"))))); (try dsimp only [])))
local macro_rules | `(tactic| walk_at "r0") => `(tactic| (repeat (first | (walk_at "ex") | (apply And.intro; (focus (walk_at "cl"))))))

section
variable {P : Program} {w : World} {K : PySem.W.Frag} {mg : Str → Option Value} {base : Heap}
def spIsFr (K : PySem.W.Frag) : Sp := fun vs H Q _ => ∃ (x : V) (q : Rat), vs = [x] ∧ FrT K H x q ∧ Q (.bl true) H
theorem rat_gcd (q : Rat) : (decide (0 < (q.den : Int)) && ((q.num.natAbs.gcd (q.den : Int).natAbs : Nat) : Int) == 1) = true := by
  have h1 := q.den_nz
  have h2 : q.num.natAbs.gcd q.den = 1 := q.reduced
  rw [Int.natAbs_natCast, h2]
  simp
  omega
theorem frt_low {X : Cx} {pins : List (Addr × Obj)} {σ : L2.St} {H : Hp} {s : Shared} {x : V} {q : Rat} (I : Inv X pins σ H s) (h : FrT X.K H x q) : ∃ (a : Addr) (k1 k2 : Tok), x = .ref a ∧ s.heap.IsTuple a #[.int q.num k1, .int q.den k2] := by
  obtain ⟨a, rfl, hs⟩ := h
  obtain ⟨its, rv, p, _⟩ := I.tuple hs
  obtain ⟨u, v, rfl, ⟨k1, rfl⟩, ⟨k2, rfl⟩⟩ := vals2 rv
  exact ⟨a, k1, k2, rfl, p⟩
theorem d_is_fraction (W : FunIn K mg "is_fraction" s_is_fraction) (Ww : FunIn K mg "is_whole" s_is_whole) (T : Blt mg) : Df P w K mg base "is_fraction" 33 ["value"] (spIsFr K) := by
  obtain ⟨f, fd, F, hm⟩ := W
  obtain ⟨fw, fdw, Fw, hmw⟩ := Ww
  have bW : Binds K fdw ["value"] [] := Fw.binds fun _ _ _ _ _ _ us hl => match us, hl with | [_], _ => rfl
  refine ⟨f, fd, ⟨fun vs H Q E h => ?_, fun A outer s H args us vs Q E hr e0 hbd r h => ?_⟩, hm, F.kp, F.binds fun _ _ _ _ _ _ us hl => match us, hl with | [_], _ => rfl⟩
  · obtain ⟨x, q, rfl, _⟩ := h
    rfl
  · obtain ⟨x, q, rfl, ⟨a, rfl, hs⟩, hq⟩ := h
    obtain ⟨u, rfl, ru⟩ := vals1 r
    cases ru
    have M : L2.Mod K mg s.heap := mod_keeps e0.mod fun b o e => (e0.bs b o e).1
    obtain ⟨k1, k2, hT⟩ : ∃ k1 k2 : Tok, s.heap.IsTuple a #[.int q.num k1, .int q.den k2] := by
      rcases hs with hs | ⟨o, its, n, hk, hc, hd, hz, rv⟩
      · obtain ⟨_, its, rv, p⟩ := hs.ok e0.hok
        obtain ⟨u, v, rfl, ⟨k1, rfl⟩, ⟨k2, rfl⟩⟩ := vals2 rv
        exact ⟨k1, k2, p⟩
      · obtain ⟨u, v, e, ⟨k1, rfl⟩, ⟨k2, rfl⟩⟩ := vals2 rv
        refine ⟨k1, k2, o, M.kin _ _ hk, hc, n, ?_⟩
        rw [hd]
        have : its = #[Value.int q.num k1, Value.int q.den k2] := by
          rw [← Array.toList_inj]
          exact e
        rw [this]
    refine codeAny_mono (lw_frac F Fw hmw T M hT hr.hd (by have := hr.dp; omega) hbd fun s v k => bW s [v] k rfl) fun r s' hq' => ?_
    obtain ⟨rfl, h', tk, rfl, k⟩ := hq'
    rw [rat_gcd]
    exact ⟨.bl true, H, rfl, e0.bare, Un.kept k, e0.hok.kept k, rfl, hq⟩
end
section
variable {P : Program} {w : World} {K : PySem.W.Frag} {mg : Str → Option Value} {base : Heap}
/-- a row: the last number is not 0 -/
def spIsRow (K : PySem.W.Frag) (tb : Addr) : Sp := fun vs H Q _ => ∃ (x : V) (qs : List Rat), vs = [x] ∧ RwT K H x qs ∧ Tr qs ∧ H tb = some (tabX tb) ∧ ∀ H', Same H H' → Q (.bl true) H'
theorem sc_is_row : FnScope ["value"] ["value"] (defScope s_is_row) := ⟨rfl, rfl, rfl, by decide +kernel, rfl, by decide +kernel, by decide +kernel⟩
def EhRow (K : PySem.W.Frag) (tb : Addr) (H : Hp) (xs : List V) (bs : List Bool) : Prop := H tb = some (tabX tb) ∧ bs = List.replicate xs.length true ∧ ∀ x ∈ xs, ∃ q, FrT K H x q
theorem d_is_row {c tb aNIL : Addr} (W : FunC K mg "is_row" s_is_row c tb) (WF : FunIn K mg "is_fraction" s_is_fraction) (Ww : FunIn K mg "is_whole" s_is_whole) (T : Blt mg) (hNIL : NilC K mg aNIL) (TB : GxR.TabB base mg c tb) (hPn : K.lookup tb = none) :
    Df P w K mg base "is_row" 2 ["value"] (spIsRow K tb) := by
  obtain ⟨f, oc, od, kV, doc, pm, an, ct, osl, lk, hcd, hkp, hm⟩ := W.ex
  obtain ⟨fF, fdF, FF, hmF⟩ := WF
  obtain ⟨fw, fdw, Fw, hmw⟩ := Ww
  have bW : Binds K fdw ["value"] [] := Fw.binds fun _ _ _ _ _ _ us hl => match us, hl with | [_], _ => rfl
  have bF : Binds K fdF ["value"] [] := FF.binds fun _ _ _ _ _ _ us hl => match us, hl with | [_], _ => rfl
  refine ⟨f, _, (fn_of lk hcd sc_is_row (fun vs H Q E h => ?_) fun A outer s H vs Q E hr h => ?_ : FnOk P w K mg base CX0 2 f _ ["value"] (spIsRow K tb)), hm, hkp, .all fun us hl => match us, hl with | [_], _ => rfl⟩
  · obtain ⟨x, qs, rfl, _⟩ := h
    rfl
  · obtain ⟨x, qs, rfl, ⟨a, us, rfl, ha, hA⟩, ht, htb, q⟩ := h
    have nd := sc_is_row.nd
    have hL := hA.length
    have hrow : RwT K H (.ref a) qs := ⟨a, us, rfl, ha, hA⟩
    refine ⟨_, (pss_cons (ps_if (pt_cmpR op_isNotTy (pe_callTy call_typeT (by rfl) T.n_type (by decide +kernel) (pa_cons (pv 0) pa_nil)) (pe_bltn (by rfl) T.n_tuple (by rfl) (v := .ty "tuple") rfl) (nomark _)) (pss_one (ps_ret pe_bl)) pss_nil)
      (pss_one (ps_ret (pe_and (pe_allT (c := c) (P := tb) (EH := EhRow K tb) hr (by rfl) T.n_all (by decide +kernel) TB rfl ?S (pv 0) ?hel (by intro _; rfl)) (pe_one (pe_or (pe_cmpR (op_eqD (hu64 hr)) (pv 0) (pe_tup pa_nil) (nomark _)) (pe_one (pe_cmpR (op_neD (hu64 hr)) (pe_ix ix_tup (pv 0) (pe_un un_neg pe_int) (fun _ _ => rfl)) (pe_glob (v := .ref aNIL) rfl hNIL.g rfl) (nomark _))))))))), ?_⟩
    case S =>
      exact ⟨rfl, rfl, by decide, rfl, rfl, fun y hy e => by
        simp only [List.mem_cons, List.not_mem_nil, or_false] at hy
        rcases hy with rfl | rfl | rfl <;> cases e⟩
    case hel =>
      intro pins σ H1 s1 xs its bs I rv hE
      obtain ⟨htb1, rfl, hfr⟩ := hE
      intro cenv A' E' j u b s₂ m₂ hsc hgl hbl hhd hdp hun hk hj hb hn hmu
      obtain ⟨hj1, hj2⟩ := List.getElem?_eq_some_iff.mp hb
      have hb' : b = true := by
        rw [List.getElem_replicate] at hj2
        exact hj2.symm
      subst hb'
      rw [List.length_replicate] at hj1
      have hx : xs[j]? = some xs[j] := List.getElem?_eq_getElem hj1
      obtain ⟨q0, hq0⟩ := hfr _ (List.mem_of_getElem? hx)
      obtain ⟨a', k1, k2, ea, hT⟩ := frt_low I hq0
      obtain ⟨u', hu', ru⟩ := rv.get hx
      rw [hj] at hu'
      cases hu'
      rw [ea] at ru
      obtain rfl : u = Value.ref a' := ru
      obtain ⟨ps, hps, _⟩ := inv_tab1 I htb1
      have naP : a' ≠ tb := fun z => by
        obtain ⟨o, ho, hc, n, hd⟩ := hT
        rw [z, hps] at ho
        cases ho
        cases hd
      have hT2 : s₂.heap.IsTuple a' #[.int q0.num k1, .int q0.den k2] := by
        obtain ⟨o, ho, r⟩ := hT
        exact ⟨o, hk _ _ naP ho, r⟩
      have M1 : L2.Mod K mg s1.heap := mod_keeps I.ok.mod I.bk
      have M2 : L2.Mod K mg s₂.heap := mod_but M1 hPn hps hk
      have hkd : cenv.scope.kind = .function := by rw [hsc]
      have hl1 : cenv.kindOf "is_fraction" = some .globalImplicit := by
        unfold Env.kindOf
        rw [hsc]
        rfl
      have hl2 : cenv.kindOf "number" = some .local := by
        unfold Env.kindOf
        rw [hsc]
        rfl
      refine wpAny_Call_Name_kw (Calls.Name_function_global hkd hl1 (Calls.loadGlobal_global (mg := mg) (by rw [hgl]; exact M2.glob) hmF ?_))
      refine PySem.W.callWith_K (h₀ := s₂.heap) M2.kin FF.kp (Calls.spliced_cons (wpAny_Name (wpAny_loadName_local hkd hl2 hn hmu (Calls.spliced_nil ⟨M2.kin, ?_⟩))))
      have hdp' : A'.depth + 1 < recursionLimit := by
        have h1 : A'.depth ≤ (A.deeper (envOfC "is_row" (defScope s_is_row) s.heap.objs.size f (.ref c))).depth + 1 := hdp
        have h2 := hr.dp
        omega
      refine wpAny_call (codeAny_mono (lw_frac FF Fw hmw T M2 hT2 hhd hdp' (bF s₂ [.ref a'] M2.kin rfl) fun s v k => bW s [v] k rfl) fun r s3 hr3 => ?_)
      obtain ⟨rfl, hK⟩ := hr3
      show Value.bool _ = Value.bool true ∧ Keeps s₂ s3
      rw [rat_gcd]
      exact ⟨rfl, hK⟩
    walk_at "rd"
    refine ⟨List.replicate us.length true, rfl, ha, htb, List.length_replicate, ⟨htb, rfl, fun x hx => ?_⟩, true, congrArg V.bl (by simp), ?_⟩
    · obtain ⟨i, hi⟩ := List.mem_iff_getElem?.mp hx
      obtain ⟨r, _, hr⟩ := hA.get hi
      exact ⟨r, hr⟩
    rw [if_pos rfl]
    walk_at "rd"
    intro p hp
    have s1 := same_new (o := .tup []) hp
    have e1 : SqT K (upd H p (.tup [])) p [] := SqT.of upd_same
    have htb1 := s1 _ _ htb
    generalize upd H p (.tup []) = H1 at s1 e1 htb1
    have hrow1 := hrow.mono (same_t s1)
    refine rEqD_rw hrow1 (rwt_nil e1) ⟨_, rfl, ?_⟩
    refine tif (fun hq => q H1 s1) (fun hq => ?_)
    obtain ⟨r, hr1⟩ : ∃ r, qs[qs.length - 1]? = some r := ⟨_, List.getElem?_eq_getElem (by have := List.length_pos_iff.mpr hq; omega)⟩
    obtain ⟨u, hu, hfr⟩ := hA.get' hr1
    have hpos : 0 < qs.length := List.length_pos_iff.mpr hq
    have hr0 : r ≠ 0 := by
      have h1 := ht hq
      rw [List.getLast_eq_getElem] at h1
      rw [List.getElem?_eq_getElem (by omega)] at hr1
      rw [← Option.some.inj hr1]
      exact h1
    have hat : atI us (-1) = some u := by
      unfold atI ixN
      rw [if_neg (by decide), hL]
      show Option.bind (if _ then _ else _) _ = _
      rw [if_pos (by omega)]
      show us[_]? = _
      rw [← hu]
      congr 1
      omega
    have ha1 := same_seqT s1 ha
    walk_at "rd"
    refine rNeD_fr (hfr.mono (same_t s1)) (hNIL.fr H1) ?_
    rw [decide_eq_false hr0]
    exact q H1 s1
/-- check_row -/
def spCkRow (K : PySem.W.Frag) (tb : Addr) : Sp := fun vs H Q _ => ∃ (x : V) (qs : List Rat), vs = [x] ∧ RwT K H x qs ∧ Tr qs ∧ H tb = some (tabX tb) ∧ ∀ H', Same H H' → Q .non H'
theorem sc_check_row : FnScope ["given"] ["given"] (defScope s_check_row) := ⟨rfl, rfl, rfl, by decide +kernel, rfl, by decide +kernel, by decide +kernel⟩
theorem d_check_row {tb : Addr} (W : FunIn K mg "check_row" s_check_row) (Dis_row : Df P w K mg base "is_row" 2 ["value"] (spIsRow K tb)) : Df P w K mg base "check_row" 35 ["given"] (spCkRow K tb) := by
  obtain ⟨f, fd, F, hm⟩ := W
  refine ⟨f, fd, F.ok sc_check_row (fun vs H Q E h => ?_) (fun cdv A outer s H vs Q E hr h => ?_), hm, F.kp, F.binds fun _ _ _ _ _ _ us hl => match us, hl with | [_], _ => rfl⟩
  · obtain ⟨x, qs, rfl, _⟩ := h
    rfl
  · obtain ⟨x, qs, rfl, hx, ht, htb, q⟩ := h
    refine ⟨_, (pss_one (ps_if (pt_not (pt_val (pe_d Dis_row (hr.mono (by decide)) rfl (pa_cons (pv 0) pa_nil)))) (pss_one ps_absurd) pss_nil)), ?_⟩
    walk_at "rd"
    intro H' s1
    walk_at "rd"
    exact q H' s1
def spCkFr (K : PySem.W.Frag) : Sp := fun vs H Q _ => ∃ (x : V) (q : Rat), vs = [x] ∧ FrT K H x q ∧ Q .non H
end
section
variable {P : Program} {w : World} {K : PySem.W.Frag} {mg : Str → Option Value} {base : Heap}
/-- a promise over two rows that are checked first -/
def spCk (K : PySem.W.Frag) (tb : Addr) (sp : Sp) : Sp := fun vs H Q E => ∃ (x y : V) (ps qs : List Rat), vs = [x, y] ∧ RwT K H x ps ∧ RwT K H y qs ∧ Tr ps ∧ Tr qs ∧ H tb = some (tabX tb) ∧ ∀ H', Same H H' → sp [x, y] H' Q E
def spCkW (K : PySem.W.Frag) (tb : Addr) (sp : Sp) : Sp := fun vs H Q E => ∃ (x y : V) (ps : List Rat) (z : Rat), vs = [x, y] ∧ RwT K H x ps ∧ FrT K H y z ∧ Tr ps ∧ H tb = some (tabX tb) ∧ ∀ H', Same H H' → sp [x, y] H' Q E
theorem sc_row_product : FnScope ["row", "other"] ["row", "other"] (defScope s_row_product) := ⟨rfl, rfl, rfl, by decide +kernel, rfl, by decide +kernel, by decide +kernel⟩
theorem d_row_product {tb : Addr} (W : FunIn K mg "row_product" s_row_product) (Dcheck_row : Df P w K mg base "check_row" 35 ["given"] (spCkRow K tb)) (Dtimes : Df P w K mg base "times" 36 ["row", "other"] (spTimes K)) : Dk P w K mg base "row_product" 37 ["row", "other"] "other" "row" (spCk K tb (spTimes K)) := by
  obtain ⟨f, fd, F, hm⟩ := W
  refine ⟨f, fd, F.ok sc_row_product (fun vs H Q E h => ?_) (fun cdv A outer s H vs Q E hr h => ?_), hm, F.kp, F.binds fun _ _ _ _ _ _ us hl => match us, hl with | [_, _], _ => rfl, ?_⟩
  · obtain ⟨x, y, ps, qs, rfl, _⟩ := h
    rfl
  · obtain ⟨x, y, ps, qs, rfl, hx, hy, tx, ty, htb, q⟩ := h
    refine ⟨_, (pss_cons (ps_expr (pe_d Dcheck_row (hr.mono (by decide)) rfl (pa_cons (pv 0) pa_nil)))
        (pss_cons (ps_expr (pe_d Dcheck_row (hr.mono (by decide)) rfl (pa_cons (pv 1) pa_nil)))
        (pss_one (ps_ret (pe_d Dtimes (hr.mono (by decide)) rfl (pa_cons (pv 0) (pa_cons (pv 1) pa_nil))))))), ?_⟩
    walk_at "rd"
    intro H1 s1
    have hy1 := hy.mono (same_t s1)
    have htb1 := s1 _ _ htb
    walk_at "rd"
    intro H2 s2
    exact ⟨x, rfl, y, rfl, q H2 (s1.trans s2)⟩
  · obtain ⟨oc, od, kV, doc, pm, an, cdv, ct, osl, rfl, lk, hcd⟩ := F.ex
    exact fun s u v => BindsTo.of_eq (by first | rfl | with_unfolding_all rfl)
end

end Vx
-- pyl
-- big
set_option Elab.async false
set_option linter.all false
set_option maxRecDepth 100000
set_option maxHeartbeats 4000000
namespace Vx
open PySem PySem.Spec PyProof.Rows L2
local macro_rules | `(tactic| walk_at "cl") => `(tactic| first | assumption | exact Bz.mono (Bz.mul (by assumption) (by assumption)) (by decide) | rfl | omega | exact sz_of 0 rfl (by decide) | exact sz_of 1 rfl (by decide) | exact sz_of 2 rfl (by decide) | exact sz_of 3 rfl (by decide) | exact cmuly (by assumption) (by assumption) (by decide) | exact Bz.mono (Bz.mul (by assumption) (by assumption)) (by decide) | decide)
local macro_rules | `(tactic| walk_at "ex") => `(tactic| ((show Exists _); first | apply @Exists.intro V | apply @Exists.intro Int | apply @Exists.intro Addr | apply @Exists.intro (List V) | apply @Exists.intro Nat | apply @Exists.intro Str | apply @Exists.intro Bool | apply @Exists.intro (Option V) | apply @Exists.intro String | apply @Exists.intro Rat | apply @Exists.intro (List Rat)))
local macro_rules | `(tactic| walk_at "rd") => `(tactic| ((repeat (first | (walk_at "ex") | (apply And.intro; (focus (walk_at "cl"))))); (try dsimp only [])))
local macro_rules | `(tactic| walk_at "r0") => `(tactic| (repeat (first | (walk_at "ex") | (apply And.intro; (focus (walk_at "cl"))))))

section
variable {P : Program} {w : World} {K : PySem.W.Frag} {mg : Str → Option Value} {base : Heap}
theorem sc_pull : FnScope ["reel", "many", "digit", "seed"] ["reel", "many"] (defScope s__law_pull) := ⟨rfl, rfl, rfl, by decide +kernel, rfl, by decide +kernel, by decide +kernel⟩
theorem d_pull (W : FunIn K mg "_law_pull" s__law_pull) (T : Bls mg) : Df P w K mg base "_law_pull" 1 ["reel", "many"] spPull := by
  obtain ⟨f, fd, F, hm⟩ := W
  refine ⟨f, fd, F.ok sc_pull (fun vs H Q E h => ?_) (fun cdv A outer s H vs Q E hr h => ?_), hm, F.kp, F.binds fun _ _ _ _ _ _ us hl => match us, hl with | [_, _], _ => rfl⟩
  · obtain ⟨a, m, rfl, _⟩ := h
    rfl
  · obtain ⟨a, m, rfl, ⟨x, y, z, h0⟩, hm0, hm1, q⟩ := h
    have nd := sc_pull.nd
    refine ⟨_, (pss_cons (ps_if (pt_cmpR op_gt (pe_ix ix_list (pv 0) pe_int (fun _ _ => rfl)) pe_int (nomark _)) (pss_cons (ps_asg (pe_callB call_divmodW (by rfl) T.n_divmod (by decide +kernel) (pa_cons (pe_ix ix_list (pv 0) pe_int (fun _ _ => rfl)) (pa_cons (pv 1) pa_nil))) (pg_tup rfl (pgs_cons (pg_sub (pv 0) pe_int set_list) (pgs_cons (pg_name (i := 2) nd rfl (Or.inl rfl)) pgs_nil))))
        (pss_one (ps_ret (pv 2)))) pss_nil)
        (pss_cons (ps_asg (pe_op op_add (pe_ix ix_list (pv 0) pe_int (fun _ _ => rfl)) pe_int) (pg_sub (pv 0) pe_int set_list))
        (pss_cons (ps_set (i := 3) nd rfl (Or.inl rfl) (pe_op op_mod (pe_callTy call_int1 (by rfl) T.n_int (by decide +kernel) (pa_cons (pe_op op_add (pe_ix ix_list (pv 0) pe_int (fun _ _ => rfl)) (pe_op op_mul pe_int (pe_ix ix_list (pv 0) pe_int (fun _ _ => rfl)))) pa_nil)) pe_int))
        (pss_cons (ps_asg (pe_op op_mod (pe_callTy call_int1 (by rfl) T.n_int (by decide +kernel) (pa_cons (pe_op op_add (pe_op op_mul (pv 3) (pe_op op_add (pe_op op_mod (pe_callTy call_int1 (by rfl) T.n_int (by decide +kernel) (pa_cons (pv 3) pa_nil)) pe_int) pe_int)) (pe_op op_mul pe_int (pe_ix ix_list (pv 0) pe_int (fun _ _ => rfl)))) pa_nil)) pe_int) (pg_sub (pv 0) pe_int set_list))
        (pss_one (ps_ret (pe_op op_mod (pe_callTy call_int1 (by rfl) T.n_int (by decide +kernel) (pa_cons (pe_op op_fdiv (pe_ix ix_list (pv 0) pe_int (fun _ _ => rfl)) pe_int) pa_nil)) (pv 1)))))))), ?_⟩
    refine ⟨_, rfl, _, _, _, _, rfl, rfl, SqL.of h0, rfl, _, _, rfl, rfl, _, rfl, ?_⟩
    by_cases hx : (0 : Int) < x
    · rw [decide_eq_true hx]
      refine iteT ?_
      refine ⟨_, rfl, _, _, _, _, rfl, rfl, SqL.of h0, rfl, _, rfl, _, _, rfl, divp_small hm0 hm1, fun p hp => ?_⟩
      have na : a ≠ p := ne_of_none h0 hp
      have h1 : upd H p (.tup [.int (x / m), .int (x % m)]) a = some (.lst [.int x, .int y, .int z]) := by rw [upd_ne na]; exact h0
      refine ⟨_, _, rfl, SqT.of upd_same, rfl, _, _, rfl, ⟨_, rfl, _, _, _, _, rfl, rfl, h1, rfl, ?_⟩⟩
      refine ⟨_, _, rfl, ⟨rfl, ?_⟩⟩
      refine ⟨_, rfl, ?_⟩
      refine q _ _ (Int.emod_nonneg _ (by omega)) (Int.emod_lt_of_pos _ hm0) ⟨_, _, _, upd_same⟩ fun b o e nb => ?_
      rw [upd_ne nb, upd_ne (ne_of_none e hp)]
      exact e
    · rw [decide_eq_false hx]
      refine iteF ?_
      refine ⟨_, rfl, _, _, _, _, rfl, rfl, SqL.of h0, rfl, _, _, rfl, rfl, _, rfl, _, _, _, _, rfl, rfl, h0, rfl, ?_⟩
      have h1 : upd H a (.lst [.int x, .int y, .int (z + 1)]) a = some (.lst [.int x, .int y, .int (z + 1)]) := upd_same
      refine ⟨_, rfl, _, _, _, _, rfl, rfl, SqL.of h1, rfl, _, rfl, _, _, _, _, rfl, rfl, SqL.of h1, rfl, _, _, rfl, rfl, Or.inl (by constructor <;> omega), _, _, rfl, rfl, Or.inl ⟨_, rfl, _, _, rfl, rfl, (by show (0 : Int) < _; decide), ?_⟩⟩
      have s0 : (0 : Int) ≤ (y + 50021 * (z + 1)) % 2147483497 := Int.emod_nonneg _ (by decide)
      have s1 : (y + 50021 * (z + 1)) % 2147483497 < 2147483497 := Int.emod_lt_of_pos _ (by decide)
      refine ⟨_, rfl, _, rfl, Or.inl ⟨_, rfl, _, _, rfl, rfl, (by show (0 : Int) < _; decide), _, _, rfl, rfl, _, _, rfl, rfl, Or.inl (by constructor <;> omega), _, rfl, _, _, _, _, rfl, rfl, SqL.of h1, rfl, _, _, rfl, rfl, Or.inl (by constructor <;> omega), _, _, rfl, rfl, Or.inl ⟨_, rfl, _, _, rfl, rfl, (by show (0 : Int) < _; decide), _, rfl, _, _, _, _, rfl, rfl, h1, rfl, ?_⟩⟩⟩
      rw [upd_upd]
      refine ⟨_, rfl, _, _, _, _, rfl, rfl, SqL.of upd_same, rfl, _, _, rfl, rfl, (by constructor <;> omega), Or.inl ⟨_, rfl, _, rfl, _, _, rfl, rfl, hm0, ?_⟩⟩
      exact q _ _ (Int.emod_nonneg _ (by omega)) (Int.emod_lt_of_pos _ hm0) ⟨_, _, _, upd_same⟩ but_upd
theorem cut_map (ns : List Int) (lo hi : Option Int) : ∃ ms : List Int, cutV (ns.map V.int) lo hi = ms.map V.int ∧ ms.length ≤ ns.length := by
  refine ⟨(ns.drop (HT.sIx ns.length 0 lo)).take (HT.sIx ns.length ns.length hi - HT.sIx ns.length 0 lo), ?_, ?_⟩
  · unfold cutV
    rw [List.length_map, List.map_take, List.map_drop]
  · rw [List.length_take, List.length_drop]
    omega
/-- _law_reel: a new reel; nothing else has changed -/
def spReel (K : PySem.W.Frag) : Sp := fun vs H Q _ => ∃ (a : Addr) (ns : List Int) (t : Int), vs = [.ref a, .int t] ∧ SqL K H a (ns.map V.int) ∧ ns.length ≤ 63 ∧ 0 ≤ t ∧ t < 100 ∧
  ∀ (p : Addr) (H' : Hp), H p = none → RlAt p H' → Same H H' → Q (.ref p) H'
theorem sc_reel : FnScope ["script", "turn", "state", "cell", "own"] ["script", "turn"] (defScope s__law_reel) := ⟨rfl, rfl, rfl, by decide +kernel, rfl, by decide +kernel, by decide +kernel⟩
theorem d_reel (W : FunIn K mg "_law_reel" s__law_reel) (T : Bls mg) : Df P w K mg base "_law_reel" 1 ["script", "turn"] (spReel K) := by
  obtain ⟨f, fd, F, hm⟩ := W
  refine ⟨f, fd, F.ok sc_reel (fun vs H Q E h => ?_) (fun cdv A outer s H vs Q E hr h => ?_), hm, F.kp, F.binds fun _ _ _ _ _ _ us hl => match us, hl with | [_, _], _ => rfl⟩
  · obtain ⟨a, ns, t, rfl, _⟩ := h
    rfl
  · obtain ⟨a, ns, t, rfl, hS, hlen, t0, t1, q⟩ := h
    have nd := sc_reel.nd
    refine ⟨_, (pss_cons (ps_set (i := 2) nd rfl (Or.inl rfl) (pe_op op_add pe_int (pe_op op_mul pe_int (pv 1))))
        (pss_cons (ps_for PassesOwn.never rfl (pi_list (pe_slice sl_list (pv 0) po_none (po_some pe_int))) (pg_name (i := 3) nd rfl (Or.inl rfl)) (pss_one (ps_set (i := 2) nd rfl (Or.inl rfl) (pe_op op_mod (pe_callTy call_int1 (by rfl) T.n_int (by decide +kernel) (pa_cons (pe_op op_add (pe_op op_add (pe_op op_mul (pv 2) pe_int) (pe_op op_mod (pe_callTy call_int1 (by rfl) T.n_int (by decide +kernel) (pa_cons (pv 3) pa_nil)) pe_int)) pe_int) pa_nil)) pe_int))))
        (pss_cons (ps_set (i := 4) nd rfl (Or.inl rfl) (pe_ifExp (pt_cmpR op_lt (pv 1) (pe_callB call_len_seq (by rfl) T.n_len (by decide +kernel) (pa_cons (pv 0) pa_nil)) (nomark _)) (pe_callB call_abs (by rfl) T.n_abs (by decide +kernel) (pa_cons (pe_callTy call_int1 (by rfl) T.n_int (by decide +kernel) (pa_cons (pe_ix ix_list (pv 0) (pv 1) (fun _ _ => rfl)) pa_nil)) pa_nil)) pe_int))
        (pss_one (ps_ret (pe_lst (pa_cons (pe_ifExp (pt_cmpR op_ge (pv 4) (pe_op op_pow pe_int pe_int) (nomark _)) (pv 4) pe_int) (pa_cons (pe_op op_mod (pe_callTy call_int1 (by rfl) T.n_int (by decide +kernel) (pa_cons (pe_op op_add (pe_op op_mul (pv 2) pe_int) (pe_op op_mul (pe_op op_mod (pe_callTy call_int1 (by rfl) T.n_int (by decide +kernel) (pa_cons (pv 4) pa_nil)) pe_int) pe_int)) pa_nil)) pe_int) (pa_cons pe_int pa_nil))))))))), ?_⟩
    refine ⟨_, rfl, _, _, rfl, rfl, Or.inl (by constructor <;> omega), _, _, rfl, rfl, ?_⟩
    refine ⟨_, rfl, _, rfl, _, _, rfl, hS, fun c hc => ?_⟩
    obtain ⟨ms, em, lm⟩ := cut_map ns none (some 8)
    rw [em]
    have s0 : Same H (upd H c (.lst (ms.map V.int))) := same_new hc
    refine ⟨c, rfl, ⟨_, SqL.of upd_same⟩, for_list (K := K) (a := c) (xs := ms.map V.int) (fun i σ H2 => ∃ (x : Int) (v : Option V), σ = [some (.ref a), some (.int t), some (.int x), v, none] ∧ 0 ≤ x ∧ x < 2147483497 ∧ H2 = upd H c (.lst (ms.map V.int)))
      ⟨_, _, rfl, by omega, by omega, rfl⟩ (fun i σ H2 _ ⟨_, _, _, _, _, e⟩ => by rw [e]; exact SqL.of upd_same) ?_ ?_⟩
    · rintro i y σ H2 hi ⟨x, v, rfl, x0, x1, rfl⟩
      obtain ⟨n, _, rfl⟩ := List.mem_map.mp (List.mem_of_getElem? hi)
      refine ⟨_, rfl, _, _, rfl, rfl, Or.inl (by constructor <;> omega), _, rfl, Or.inl ⟨_, rfl, _, _, rfl, rfl, (by show (0 : Int) < _; decide), _, _, rfl, rfl, _, _, rfl, rfl, Or.inl ⟨_, rfl, _, _, rfl, rfl, (by show (0 : Int) < _; decide), ?_⟩⟩⟩
      exact ⟨_, _, rfl, Int.emod_nonneg _ (by decide), Int.emod_lt_of_pos _ (by decide), rfl⟩
    · rintro σ H2 ⟨x, v, rfl, x0, x1, rfl⟩
      have hS2 : SqL K (upd H c (.lst (ms.map V.int))) a (ns.map V.int) := s0.seq hS
      refine ⟨_, rfl, _, rfl, _, _, rfl, Or.inl hS2, _, _, rfl, rfl, _, rfl, ?_⟩
      rw [List.length_map]
      by_cases ht : t < (ns.length : Int)
      case' pos =>
        rw [decide_eq_true ht]
        refine iteT ?_
        have hn : t.toNat < ns.length := by omega
        refine ⟨_, rfl, _, rfl, _, _, _, _, rfl, rfl, hS2, at_of (j := t.toNat) (by omega) (by rw [List.getElem?_map, List.getElem?_eq_getElem hn]; rfl), Or.inl ⟨_, rfl, _, rfl, ?_⟩⟩
      case' neg =>
        rw [decide_eq_false ht]
        refine iteF ?_
      all_goals
        refine ⟨_, rfl, _, _, rfl, rfl, ⟨by decide, by decide, by decide⟩, _, _, rfl, rfl, _, rfl, ?_⟩
        refine ite2 (fun _ => ⟨_, rfl, ?_⟩) (fun _ => ?_)
        all_goals
          refine ⟨_, rfl, _, _, rfl, rfl, Or.inl (by constructor <;> omega), _, rfl, Or.inl ⟨_, rfl, _, _, rfl, rfl, (by show (0 : Int) < _; decide), _, _, rfl, rfl, Or.inr (by constructor <;> decide), _, _, rfl, rfl, Or.inl ⟨_, rfl, _, _, rfl, rfl, (by show (0 : Int) < _; decide), (by show 3 ≤ sizeLine; decide), fun p hp => ?_⟩⟩⟩
          exact q p _ (s0.free hp) ⟨_, _, _, upd_same⟩ (s0.trans (same_new hp))
theorem but_seq {a l : Addr} {H H' : Hp} {xs : List V} (e : But a H H') (n : l ≠ a) (h : SqL K H l xs) : SqL K H' l xs := by
  rcases h with (h | ⟨o, h⟩) | h
  · exact Or.inl (Or.inl (e _ _ h n))
  · exact Or.inl (Or.inr ⟨o, e _ _ h n⟩)
  · exact Or.inr h
/-- _law_one_of: some item of the list -/
def spOneOf (K : PySem.W.Frag) : Sp := fun vs H Q _ => ∃ (a l : Addr) (xs : List V), vs = [.ref a, .ref l] ∧ RlAt a H ∧ SqL K H l xs ∧ l ≠ a ∧ 0 < xs.length ∧ xs.length < 1000 ∧
  ∀ (v : V) (H' : Hp), v ∈ xs → RlAt a H' → But a H H' → Q v H'
theorem sc_one_of : FnScope ["reel", "some"] ["reel", "some"] (defScope s__law_one_of) := ⟨rfl, rfl, rfl, by decide +kernel, rfl, by decide +kernel, by decide +kernel⟩
theorem d_one_of (W : FunIn K mg "_law_one_of" s__law_one_of) (T : Bls mg) (D : Df P w K mg base "_law_pull" 1 ["reel", "many"] spPull) : Df P w K mg base "_law_one_of" 2 ["reel", "some"] (spOneOf K) := by
  obtain ⟨f, fd, F, hm⟩ := W
  refine ⟨f, fd, F.ok sc_one_of (fun vs H Q E h => ?_) (fun cdv A outer s H vs Q E hr h => ?_), hm, F.kp, F.binds fun _ _ _ _ _ _ us hl => match us, hl with | [_, _], _ => rfl⟩
  · obtain ⟨a, l, xs, rfl, _⟩ := h
    rfl
  · obtain ⟨a, l, xs, rfl, hR, hS, hne, l0, l1, q⟩ := h
    refine ⟨_, (pss_one (ps_ret (pe_ix ix_list (pv 1) (pe_d D (hr.mono (by decide)) rfl (pa_cons (pv 0) (pa_cons (pe_callB call_len_seq (by rfl) T.n_len (by decide +kernel) (pa_cons (pv 1) pa_nil)) pa_nil))) (fun _ _ => rfl)))), ?_⟩
    refine ⟨_, rfl, _, rfl, _, rfl, _, _, rfl, Or.inl hS, a, _, rfl, hR, by omega, by omega, fun d H' d0 d1 hR' hB => ?_⟩
    have hd : d.toNat < xs.length := by omega
    exact ⟨_, _, _, _, rfl, rfl, but_seq hB hne hS, at_of (j := d.toNat) (by omega) (List.getElem?_eq_getElem hd), q _ _ (List.getElem_mem hd) hR' hB⟩

end

section
variable {P : Program} {w : World} {K : PySem.W.Frag} {mg : Str → Option Value} {base : Heap}
/-- the law's own fraction in lowest terms -/
def spLow (K : PySem.W.Frag) : Sp := fun vs H Q _ => ∃ n m : Int, vs = [.int n, .int m] ∧ 0 < m ∧ Bz 1900000 m ∧ ∀ v H', Same H H' → FrT K H' v (Rat.divInt n m) → Q v H'
theorem sc__law_lowest : FnScope ["n", "m", "a", "b"] ["n", "m"] (defScope s__law_lowest) := ⟨rfl, rfl, rfl, by decide +kernel, rfl, by decide +kernel, by decide +kernel⟩
theorem d__law_lowest (W : FunIn K mg "_law_lowest" s__law_lowest) (T : Blt mg) (sy : Sys base) (hP : P.given.tree = none) : Df P w K mg base "_law_lowest" 33 ["n", "m"] (spLow K) := by
  obtain ⟨f, fd, F, hm⟩ := W
  refine ⟨f, fd, F.ok sc__law_lowest (fun vs H Q E h => ?_) (fun cdv A outer s H vs Q E hr h => ?_), hm, F.kp, F.binds fun _ _ _ _ _ _ us hl => match us, hl with | [_, _], _ => rfl⟩
  · obtain ⟨n, m, rfl, _⟩ := h
    rfl
  · obtain ⟨n, m, rfl, hm0, hmz, q⟩ := h
    have nd := sc__law_lowest.nd
    obtain ⟨e1, e2⟩ := fr_pos_f (n := n) hm0
    have hg : ((n.natAbs.gcd m.natAbs : Nat) : Int) ≠ 0 := by
      have := Nat.gcd_pos_of_pos_right n.natAbs (show 0 < m.natAbs by omega)
      omega
    have hgz : Bz 1900000 ((n.natAbs.gcd m.natAbs : Nat) : Int) := by
      unfold Bz
      rw [Int.natAbs_natCast]
      exact Nat.lt_of_le_of_lt (Nat.gcd_le_right _ (by omega)) hmz
    have fin : ∀ p, H p = none → Q (.ref p) (upd H p (.tup [.int (Rat.divInt n m).num, .int (Rat.divInt n m).den])) := fun p hp => q _ _ (same_new hp) ⟨p, rfl, SqT.of upd_same⟩
    have c1 : ∀ i : Int, CDivY i ((n.natAbs.gcd m.natAbs : Nat) : Int) := fun i => hg
    have c2 := c1 n
    have c3 := c1 m
    have hgt : m > 0 := hm0
    have ea : (if n < 0 then -n else n) = (n.natAbs : Int) := by split <;> omega
    have em : (if m < 0 then -m else m) = (m.natAbs : Int) := by split <;> omega
    refine ⟨_, (pss_cons (ps_par (i := 2) (j := 3) (by rfl) nd rfl rfl (by decide) rfl rfl (pa_cons (pe_callB call_abs (by rfl) T.n_abs (by decide +kernel) (pa_cons (pv 0) pa_nil)) (pa_cons (pe_callB call_abs (by rfl) T.n_abs (by decide +kernel) (pa_cons (pv 1) pa_nil)) pa_nil)) (by rfl))
        (pss_cons (ps_while PassesOwn.never (pt_cmpR op_ne (pv 3) pe_int (nomark _)) (pss_one (ps_par (i := 2) (j := 3) (by rfl) nd rfl rfl (by decide) rfl rfl (pa_cons (pv 3) (pa_cons (pe_op op_mod (pe_callTy call_int1 (by rfl) T.n_int (by decide +kernel) (pa_cons (pv 2) pa_nil)) (pv 3)) pa_nil)) (by rfl))))
        (pss_one (ps_ret (pe_ifExp (pt_cmpR op_gt (pv 1) pe_int (nomark _)) (pe_tup (pa_cons (pe_op (op_fdivY sy (hr.mono (by decide)) hP ⟨_, _, rfl, rfl, rfl, rfl, rfl⟩) (pv 0) (pv 2)) (pa_cons (pe_op (op_fdivY sy (hr.mono (by decide)) hP ⟨_, _, rfl, rfl, rfl, rfl, rfl⟩) (pv 1) (pv 2)) pa_nil))) (pe_tup (pa_cons (pe_op op_sub pe_int (pe_op (op_fdivY sy (hr.mono (by decide)) hP ⟨_, _, rfl, rfl, rfl, rfl, rfl⟩) (pv 0) (pv 2))) (pa_cons (pe_op op_sub pe_int (pe_op (op_fdivY sy (hr.mono (by decide)) hP ⟨_, _, rfl, rfl, rfl, rfl, rfl⟩) (pv 1) (pv 2))) pa_nil)))))))), ?_⟩
    walk_at "rd"
    refine ⟨fun k σ H' => ∃ a b : Nat, σ = [some (.int n), some (.int m), some (.int (a : Int)), some (.int (b : Int))] ∧ H' = H ∧ k = b ∧ a.gcd b = n.natAbs.gcd m.natAbs, ⟨m.natAbs, n.natAbs, m.natAbs, by rw [ea, em]; rfl, rfl, rfl, rfl⟩, ?_⟩
    rintro b σ H' ⟨a, b', rfl, rfl, rfl, hab⟩
    walk_at "rd"
    refine tifn (fun hb => ?_) (fun hb => ?_)
    · have hb1 : b ≠ 0 := fun z => hb (by rw [z]; rfl)
      have hb0 : 0 < (b : Int) := by omega
      refine ⟨fun σ' H'' => σ' = [some (.int n), some (.int m), some (.int (b : Int)), some (.int ((a % b : Nat) : Int))] ∧ H'' = H', ?_, ?_⟩
      · rintro σ' H'' ⟨rfl, rfl⟩
        refine ⟨a % b, Nat.mod_lt _ (by omega), b, a % b, rfl, rfl, rfl, ?_⟩
        rw [← hab, Nat.gcd_comm a b, Nat.gcd_rec b a, Nat.gcd_comm]
      · refine ⟨V.int (b : Int), rfl, V.int (a : Int), rfl, Or.inl ⟨_, rfl, V.int (b : Int), rfl, _, _, rfl, rfl, hb0, _, _, rfl, ?_⟩⟩
        rw [Int.natCast_emod]
        exact ⟨rfl, rfl⟩
    · have hb0 : b = 0 := by
        have := V.int.inj hb
        omega
      subst hb0
      rw [Nat.gcd_zero_right] at hab
      subst hab
      walk_at "rd"
      refine tif (fun _ => ?_) (fun z => absurd hgt z)
      walk_at "rd"
      rw [e1, e2]
      exact fin
theorem sc__law_plus : FnScope ["one", "two"] ["one", "two"] (defScope s__law_plus) := ⟨rfl, rfl, rfl, by decide +kernel, rfl, by decide +kernel, by decide +kernel⟩
theorem d__law_plus (W : FunIn K mg "_law_plus" s__law_plus) (D_law_lowest : Df P w K mg base "_law_lowest" 33 ["n", "m"] (spLow K)) : Df P w K mg base "_law_plus" 34 ["one", "two"] (spR2 K (fun p q => p + q)) := by
  obtain ⟨f, fd, F, hm⟩ := W
  refine ⟨f, fd, F.ok sc__law_plus (fun vs H Q E h => ?_) (fun cdv A outer s H vs Q E hr h => ?_), hm, F.kp, F.binds fun _ _ _ _ _ _ us hl => match us, hl with | [_, _], _ => rfl⟩
  · obtain ⟨x, y, p, q, rfl, _⟩ := h
    rfl
  · obtain ⟨x, y, p, r, rfl, ⟨a, rfl, ha⟩, ⟨b, rfl, hb⟩, zp, zr, q⟩ := h
    have nd := sc__law_plus.nd
    have b1 := zp.n
    have b2 := zp.dd
    have b3 := zr.n
    have b4 := zr.dd
    have hd : 0 < (p.den : Int) * (r.den : Int) := Int.mul_pos (by have := p.den_nz; omega) (by have := r.den_nz; omega)
    refine ⟨_, (pss_one (ps_ret (pe_d D_law_lowest (hr.mono (by decide)) rfl (pa_cons (pe_op op_add (pe_op op_mulX (pe_ix ix_tup (pv 0) pe_int (fun _ _ => rfl)) (pe_ix ix_tup (pv 1) pe_int (fun _ _ => rfl))) (pe_op op_mulX (pe_ix ix_tup (pv 1) pe_int (fun _ _ => rfl)) (pe_ix ix_tup (pv 0) pe_int (fun _ _ => rfl)))) (pa_cons (pe_op op_mulX (pe_ix ix_tup (pv 0) pe_int (fun _ _ => rfl)) (pe_ix ix_tup (pv 1) pe_int (fun _ _ => rfl))) pa_nil))))), ?_⟩
    walk_at "rd"
    rw [fr_add]
    exact q
theorem sc__law_times : FnScope ["one", "two"] ["one", "two"] (defScope s__law_times) := ⟨rfl, rfl, rfl, by decide +kernel, rfl, by decide +kernel, by decide +kernel⟩
theorem d__law_times (W : FunIn K mg "_law_times" s__law_times) (D_law_lowest : Df P w K mg base "_law_lowest" 33 ["n", "m"] (spLow K)) : Df P w K mg base "_law_times" 34 ["one", "two"] (spR2 K (fun p q => p * q)) := by
  obtain ⟨f, fd, F, hm⟩ := W
  refine ⟨f, fd, F.ok sc__law_times (fun vs H Q E h => ?_) (fun cdv A outer s H vs Q E hr h => ?_), hm, F.kp, F.binds fun _ _ _ _ _ _ us hl => match us, hl with | [_, _], _ => rfl⟩
  · obtain ⟨x, y, p, q, rfl, _⟩ := h
    rfl
  · obtain ⟨x, y, p, r, rfl, ⟨a, rfl, ha⟩, ⟨b, rfl, hb⟩, zp, zr, q⟩ := h
    have nd := sc__law_times.nd
    have b1 := zp.n
    have b2 := zp.dd
    have b3 := zr.n
    have b4 := zr.dd
    have hd : 0 < (p.den : Int) * (r.den : Int) := Int.mul_pos (by have := p.den_nz; omega) (by have := r.den_nz; omega)
    refine ⟨_, (pss_one (ps_ret (pe_d D_law_lowest (hr.mono (by decide)) rfl (pa_cons (pe_op op_mulX (pe_ix ix_tup (pv 0) pe_int (fun _ _ => rfl)) (pe_ix ix_tup (pv 1) pe_int (fun _ _ => rfl))) (pa_cons (pe_op op_mulX (pe_ix ix_tup (pv 0) pe_int (fun _ _ => rfl)) (pe_ix ix_tup (pv 1) pe_int (fun _ _ => rfl))) pa_nil))))), ?_⟩
    walk_at "rd"
    rw [fr_mul]
    exact q
/-- a drawn fraction -/
def spPart (K : PySem.W.Frag) : Sp := fun vs H Q _ => ∃ (a : Addr), vs = [.ref a] ∧ RlAt a H ∧ ∀ v q H', RlAt a H' → But a H H' → FrT K H' v q → Qz 4 q → Q v H'
def spSome (K : PySem.W.Frag) : Sp := fun vs H Q _ => ∃ (a : Addr), vs = [.ref a] ∧ RlAt a H ∧ ∀ v q H', RlAt a H' → But a H H' → FrT K H' v q → Qz 4 q → q ≠ 0 → Q v H'
theorem frt_int {K : PySem.W.Frag} {H : Hp} {p : Addr} (i : Int) (h : SqT K H p [.int i, .int 1]) : FrT K H (.ref p) (i : Rat) := ⟨p, rfl, by simpa using h⟩
theorem qz_int {i : Int} {b : Nat} (h : i.natAbs < 2 ^ b) (hb : 0 < b) : Qz b (i : Rat) := ⟨by simpa using h, by simpa using Nat.one_lt_two_pow (by omega)⟩
theorem sc__law_part : FnScope ["reel", "top"] ["reel"] (defScope s__law_part) := ⟨rfl, rfl, rfl, by decide +kernel, rfl, by decide +kernel, by decide +kernel⟩
theorem d__law_part (W : FunIn K mg "_law_part" s__law_part) (D_law_pull : Df P w K mg base "_law_pull" 1 ["reel", "many"] spPull) (D_law_lowest : Df P w K mg base "_law_lowest" 33 ["n", "m"] (spLow K)) : Df P w K mg base "_law_part" 34 ["reel"] (spPart K) := by
  obtain ⟨f, fd, F, hm⟩ := W
  refine ⟨f, fd, F.ok sc__law_part (fun vs H Q E h => ?_) (fun cdv A outer s H vs Q E hr h => ?_), hm, F.kp, F.binds fun _ _ _ _ _ _ us hl => match us, hl with | [_], _ => rfl⟩
  · obtain ⟨a, rfl, _⟩ := h
    rfl
  · obtain ⟨a, rfl, hR, q⟩ := h
    have nd := sc__law_part.nd
    refine ⟨_, (pss_cons (ps_if (pt_cmpR op_eq (pe_d D_law_pull (hr.mono (by decide)) rfl (pa_cons (pv 0) (pa_cons pe_int pa_nil))) pe_int (nomark _)) (pss_one (ps_ret (pe_tup (pa_cons (pe_op op_sub (pe_d D_law_pull (hr.mono (by decide)) rfl (pa_cons (pv 0) (pa_cons pe_int pa_nil))) pe_int) (pa_cons pe_int pa_nil))))) pss_nil)
        (pss_cons (ps_set (i := 1) nd rfl (Or.inl rfl) (pe_op op_sub (pe_d D_law_pull (hr.mono (by decide)) rfl (pa_cons (pv 0) (pa_cons pe_int pa_nil))) pe_int))
        (pss_one (ps_ret (pe_d D_law_lowest (hr.mono (by decide)) rfl (pa_cons (pv 1) (pa_cons (pe_op op_add pe_int (pe_d D_law_pull (hr.mono (by decide)) rfl (pa_cons (pv 0) (pa_cons pe_int pa_nil)))) pa_nil))))))), ?_⟩
    walk_at "rd"
    intro d H1 d0 d1 hR1 hB1
    walk_at "rd"
    refine tif (fun _ => ?_) (fun _ => ?_)
    · walk_at "rd"
      intro d H2 d0 d1 hR2 hB2
      walk_at "rd"
      intro p hp
      have s3 := same_new (o := .tup [.int (d - 4), .int 1]) hp
      have na : a ≠ p := by
        obtain ⟨_, _, _, e⟩ := hR2
        exact ne_of_none e hp
      refine q _ ((d - 4 : Int) : Rat) _ ?_ (but_trans (but_trans hB1 hB2) (same_but a s3)) (frt_int _ (SqT.of upd_same)) (qz_int (by omega) (by decide))
      obtain ⟨x, y, z, e⟩ := hR2
      exact ⟨x, y, z, s3 _ _ e⟩
    · walk_at "rd"
      intro d2 H2 d20 d21 hR2 hB2
      walk_at "rd"
      intro d3 H3 d30 d31 hR3 hB3
      have h0 : 0 < 1 + d3 := by omega
      have hz : Bz 1900000 (1 + d3) := Bz.mono (b := 4) (by unfold Bz; omega) (by decide)
      walk_at "rd"
      intro v H4 s4 hv
      refine q v _ H4 ?_ (but_trans (but_trans (but_trans hB1 hB2) hB3) (same_but a s4)) hv (Qz.of_div (by unfold Bz; omega) (by unfold Bz; omega) (by omega))
      obtain ⟨x, y, z, e⟩ := hR3
      exact ⟨x, y, z, s4 _ _ e⟩
theorem sc__law_some : FnScope ["reel", "found"] ["reel"] (defScope s__law_some) := ⟨rfl, rfl, rfl, by decide +kernel, rfl, by decide +kernel, by decide +kernel⟩
theorem d__law_some (W : FunIn K mg "_law_some" s__law_some) (D_law_part : Df P w K mg base "_law_part" 34 ["reel"] (spPart K)) : Df P w K mg base "_law_some" 35 ["reel"] (spSome K) := by
  obtain ⟨f, fd, F, hm⟩ := W
  refine ⟨f, fd, F.ok sc__law_some (fun vs H Q E h => ?_) (fun cdv A outer s H vs Q E hr h => ?_), hm, F.kp, F.binds fun _ _ _ _ _ _ us hl => match us, hl with | [_], _ => rfl⟩
  · obtain ⟨a, rfl, _⟩ := h
    rfl
  · obtain ⟨a, rfl, hR, q⟩ := h
    have nd := sc__law_some.nd
    refine ⟨_, (pss_cons (ps_set (i := 1) nd rfl (Or.inl rfl) (pe_d D_law_part (hr.mono (by decide)) rfl (pa_cons (pv 0) pa_nil)))
        (pss_one (ps_ret (pe_ifExp (pt_cmpR op_ne (pe_ix ix_tup (pv 1) pe_int (fun _ _ => rfl)) pe_int (nomark _)) (pv 1) (pe_tup (pa_cons pe_int (pa_cons pe_int pa_nil))))))), ?_⟩
    walk_at "rd"
    intro v r H1 hR1 hB1 hv hz
    obtain ⟨b, rfl, hb⟩ := hv
    walk_at "rd"
    refine tifn (fun h0 => ?_) (fun h0 => ?_)
    · walk_at "rd"
      refine q _ r H1 hR1 hB1 ⟨b, rfl, hb⟩ hz fun z => h0 ?_
      rw [z]
      rfl
    · walk_at "rd"
      intro p hp
      have s3 := same_new (o := .tup [.int 1, .int 1]) hp
      refine q _ 1 _ ?_ (but_trans hB1 (same_but a s3)) (frt_int 1 (SqT.of upd_same)) (qz1 (by decide)) (by decide)
      obtain ⟨x, y, z, e⟩ := hR1
      exact ⟨x, y, z, s3 _ _ e⟩
end

end Vx
-- pyl
-- big
set_option Elab.async false
set_option linter.all false
set_option maxRecDepth 100000
set_option maxHeartbeats 4000000
namespace Vx
open PySem PySem.Spec PyProof.Rows L2
local macro_rules | `(tactic| walk_at "cl") => `(tactic| first | assumption | exact Bz.mono (Bz.mul (by assumption) (by assumption)) (by decide) | rfl | omega | exact sz_of 0 rfl (by decide) | exact sz_of 1 rfl (by decide) | exact sz_of 2 rfl (by decide) | exact sz_of 3 rfl (by decide) | exact cmuly (by assumption) (by assumption) (by decide) | exact Bz.mono (Bz.mul (by assumption) (by assumption)) (by decide) | decide)
local macro_rules | `(tactic| walk_at "ex") => `(tactic| ((show Exists _); first | apply @Exists.intro V | apply @Exists.intro Int | apply @Exists.intro Addr | apply @Exists.intro (List V) | apply @Exists.intro Nat | apply @Exists.intro Str | apply @Exists.intro Bool | apply @Exists.intro (Option V) | apply @Exists.intro String | apply @Exists.intro Rat | apply @Exists.intro (List Rat)))
local macro_rules | `(tactic| walk_at "rd") => `(tactic| ((repeat (first | (walk_at "ex") | (apply And.intro; (focus (walk_at "cl"))))); (try dsimp only [])))
local macro_rules | `(tactic| walk_at "r0") => `(tactic| (repeat (first | (walk_at "ex") | (apply And.intro; (focus (walk_at "cl"))))))

section
variable {P : Program} {w : World} {K : PySem.W.Frag} {mg : Str → Option Value} {base : Heap}
/-- a list or a tuple of fractions -/
def SqF (tup : Bool) (K : PySem.W.Frag) (H : Hp) (a : Addr) (us : List V) : Prop := if tup = true then SqT K H a us else SqL K H a us
/-- the row of these numbers -/
def spTrimL (K : PySem.W.Frag) : Sp := fun vs H Q _ => ∃ (l : Addr) (us : List V) (qs : List Rat), vs = [.ref l] ∧ SqL K H l us ∧ FrA K H us qs ∧ us.length < 1000 ∧
  ∀ v H' m, Same H H' → Tr (qs.take m) → (∀ c ∈ qs.drop m, c = 0) → RwT K H' v (qs.take m) → Q v H'
def spTrimT (K : PySem.W.Frag) : Sp := fun vs H Q _ => ∃ (l : Addr) (us : List V) (qs : List Rat), vs = [.ref l] ∧ SqT K H l us ∧ FrA K H us qs ∧ us.length < 1000 ∧
  ∀ v H' m, Same H H' → Tr (qs.take m) → (∀ c ∈ qs.drop m, c = 0) → RwT K H' v (qs.take m) → Q v H'
theorem sc__law_trim : FnScope ["numbers", "many", "turn"] ["numbers"] (defScope s__law_trim) := ⟨rfl, rfl, rfl, by decide +kernel, rfl, by decide +kernel, by decide +kernel⟩
theorem d__law_trimL (W : FunIn K mg "_law_trim" s__law_trim) (T : Blt mg) : Df P w K mg base "_law_trim" 33 ["numbers"] (spTrimL K) := by
  obtain ⟨f, fd, F, hm⟩ := W
  refine ⟨f, fd, F.ok sc__law_trim (fun vs H Q E h => ?_) (fun cdv A outer s H vs Q E hr h => ?_), hm, F.kp, F.binds fun _ _ _ _ _ _ us hl => match us, hl with | [_], _ => rfl⟩
  · obtain ⟨l, us, qs, rfl, _⟩ := h
    rfl
  · obtain ⟨l, us, qs, rfl, hl, hA, hlen, q⟩ := h
    have nd := sc__law_trim.nd
    have hL := hA.length
    have hl' : SqL K H l us ∨ SqT K H l us := Or.inl hl
    refine ⟨_, (pss_cons (ps_set (i := 1) nd rfl (Or.inl rfl) (pe_callB call_len_seq (by rfl) T.n_len (by decide +kernel) (pa_cons (pv 0) pa_nil)))
        (pss_cons (ps_for PassesOwn.never rfl (pi_range1 rfl T.n_range (pa_cons (pe_callB call_len_seq (by rfl) T.n_len (by decide +kernel) (pa_cons (pv 0) pa_nil)) pa_nil)) (pg_name (i := 2) nd rfl (Or.inl rfl) (Or.inr rfl)) (pss_cons (ps_if (pt_cmpR op_ne (pe_ix ix_tup (pe_ix ix_list (pv 0) (pe_op op_sub (pv 1) pe_int) (fun _ _ => rfl)) pe_int (fun _ _ => rfl)) pe_int (nomark _)) (pss_one ps_break) pss_nil)
        (pss_one (ps_set (i := 1) nd rfl (Or.inl rfl) (pe_op op_sub (pv 1) pe_int)))))
        (pss_one (ps_ret (pe_callTy call_tuple_of (by rfl) T.n_tuple (by decide +kernel) (pa_cons (pe_slice sl_list (pv 0) po_none (po_some (pv 1))) pa_nil)))))), ?_⟩
    walk_at "r0"
    refine for_range (n := us.length) (fun i σ H' => ∃ (o : Option V), σ = [some (.ref l), some (.int ((us.length - i : Nat) : Int)), o] ∧ H' = H ∧ ∀ c ∈ qs.drop (us.length - i), c = 0) ⟨none, rfl, rfl, fun c hc => by rw [Nat.sub_zero, hL, List.drop_length] at hc; cases hc⟩ ?_ ?_
    · rintro i σ H' hi ⟨o, rfl, rfl, hz⟩
      obtain ⟨u, hu⟩ : ∃ u, us[us.length - i - 1]? = some u := ⟨_, List.getElem?_eq_getElem (by omega)⟩
      obtain ⟨r, hr1, ⟨b, rfl, hb⟩⟩ := hA.get hu
      have hat : atI us (((us.length - i : Nat) : Int) - 1) = some (.ref b) := at_of (j := us.length - i - 1) (by omega) hu
      have hr2 : qs[us.length - i - 1]'(by omega) = r := by
        rw [List.getElem?_eq_getElem (by omega)] at hr1
        exact Option.some.inj hr1
      walk_at "rd"
      refine tifn (fun hne => ?_) (fun he => ?_)
      · have hr0 : r ≠ 0 := fun z => hne (by rw [z]; rfl)
        walk_at "rd"
        rw [cutV_take (by omega)]
        intro p hp
        have s1 := same_new (o := .lst (us.take (us.length - i))) hp
        have e1 : upd H' p (.lst (us.take (us.length - i))) p = some (.lst (us.take (us.length - i))) := upd_same
        generalize upd H' p (.lst (us.take (us.length - i))) = H1 at s1 e1
        refine ⟨_, _, rfl, Or.inl ⟨SqL.of e1, fun t ht' => ?_⟩⟩
        exact q _ _ (us.length - i) (s1.trans (same_new ht')) (tr_take_of (by omega) (by omega) (by rw [hr2]; exact hr0)) hz ⟨t, us.take (us.length - i), rfl, SqT.of upd_same, fra_mono (same_t (s1.trans (same_new ht'))) (hA.take (us.length - i))⟩
      · have hr0 : r = 0 := by
          have := V.int.inj he
          exact Rat.num_eq_zero.mp this
        walk_at "rd"
        refine ⟨?_, rfl, fun c hc => ?_⟩
        · have e1 : ((us.length - i : Nat) : Int) - 1 = ((us.length - (i + 1) : Nat) : Int) := by omega
          rw [e1]
          rfl
        · have e1 : us.length - (i + 1) = us.length - i - 1 := by omega
          have e2 : us.length - i - 1 + 1 = us.length - i := by omega
          rw [e1, List.drop_eq_getElem_cons (by omega), hr2, e2] at hc
          rcases List.mem_cons.mp hc with z | z
          · rw [z, hr0]
          · exact hz c z
    · rintro σ H' ⟨o, rfl, rfl, hz⟩
      walk_at "rd"
      rw [cutV_take (by omega)]
      intro p hp
      have s1 := same_new (o := .lst (us.take (us.length - us.length))) hp
      have e1 : upd H' p (.lst (us.take (us.length - us.length))) p = some (.lst (us.take (us.length - us.length))) := upd_same
      generalize upd H' p (.lst (us.take (us.length - us.length))) = H1 at s1 e1
      refine ⟨_, _, rfl, Or.inl ⟨SqL.of e1, fun t ht' => ?_⟩⟩
      exact q _ _ (us.length - us.length) (s1.trans (same_new ht')) (by rw [Nat.sub_self]; exact tr_nil) hz ⟨t, us.take (us.length - us.length), rfl, SqT.of upd_same, fra_mono (same_t (s1.trans (same_new ht'))) (hA.take (us.length - us.length))⟩
theorem d__law_trimT (W : FunIn K mg "_law_trim" s__law_trim) (T : Blt mg) : Df P w K mg base "_law_trim" 33 ["numbers"] (spTrimT K) := by
  obtain ⟨f, fd, F, hm⟩ := W
  refine ⟨f, fd, F.ok sc__law_trim (fun vs H Q E h => ?_) (fun cdv A outer s H vs Q E hr h => ?_), hm, F.kp, F.binds fun _ _ _ _ _ _ us hl => match us, hl with | [_], _ => rfl⟩
  · obtain ⟨l, us, qs, rfl, _⟩ := h
    rfl
  · obtain ⟨l, us, qs, rfl, hl, hA, hlen, q⟩ := h
    have nd := sc__law_trim.nd
    have hL := hA.length
    have hl' : SqL K H l us ∨ SqT K H l us := Or.inr hl
    refine ⟨_, (pss_cons (ps_set (i := 1) nd rfl (Or.inl rfl) (pe_callB call_len_seq (by rfl) T.n_len (by decide +kernel) (pa_cons (pv 0) pa_nil)))
        (pss_cons (ps_for PassesOwn.never rfl (pi_range1 rfl T.n_range (pa_cons (pe_callB call_len_seq (by rfl) T.n_len (by decide +kernel) (pa_cons (pv 0) pa_nil)) pa_nil)) (pg_name (i := 2) nd rfl (Or.inl rfl) (Or.inr rfl)) (pss_cons (ps_if (pt_cmpR op_ne (pe_ix ix_tup (pe_ix ix_tup (pv 0) (pe_op op_sub (pv 1) pe_int) (fun _ _ => rfl)) pe_int (fun _ _ => rfl)) pe_int (nomark _)) (pss_one ps_break) pss_nil)
        (pss_one (ps_set (i := 1) nd rfl (Or.inl rfl) (pe_op op_sub (pv 1) pe_int)))))
        (pss_one (ps_ret (pe_callTy call_tuple_of (by rfl) T.n_tuple (by decide +kernel) (pa_cons (pe_slice sl_tupA (pv 0) po_none (po_some (pv 1))) pa_nil)))))), ?_⟩
    walk_at "r0"
    refine for_range (n := us.length) (fun i σ H' => ∃ (o : Option V), σ = [some (.ref l), some (.int ((us.length - i : Nat) : Int)), o] ∧ H' = H ∧ ∀ c ∈ qs.drop (us.length - i), c = 0) ⟨none, rfl, rfl, fun c hc => by rw [Nat.sub_zero, hL, List.drop_length] at hc; cases hc⟩ ?_ ?_
    · rintro i σ H' hi ⟨o, rfl, rfl, hz⟩
      obtain ⟨u, hu⟩ : ∃ u, us[us.length - i - 1]? = some u := ⟨_, List.getElem?_eq_getElem (by omega)⟩
      obtain ⟨r, hr1, ⟨b, rfl, hb⟩⟩ := hA.get hu
      have hat : atI us (((us.length - i : Nat) : Int) - 1) = some (.ref b) := at_of (j := us.length - i - 1) (by omega) hu
      have hr2 : qs[us.length - i - 1]'(by omega) = r := by
        rw [List.getElem?_eq_getElem (by omega)] at hr1
        exact Option.some.inj hr1
      walk_at "rd"
      refine tifn (fun hne => ?_) (fun he => ?_)
      · have hr0 : r ≠ 0 := fun z => hne (by rw [z]; rfl)
        walk_at "rd"
        refine ⟨fun hw => ?_, fun hw p hp => ?_⟩
        · have em : us.length = us.length - i := by
            have h2 := hw.2
            rw [HT.sIx_nat, Nat.min_eq_left (by omega)] at h2
            exact h2.symm
          have et : us.take (us.length - i) = us := List.take_of_length_le (by omega)
          refine ⟨_, _, rfl, Or.inr ⟨hl, q _ _ (us.length - i) (Same.refl _) (tr_take_of (by omega) (by omega) (by rw [hr2]; exact hr0)) hz ⟨l, us.take (us.length - i), rfl, by rw [et]; exact hl, hA.take (us.length - i)⟩⟩⟩
        · rw [cutV_take (by omega)]
          refine ⟨_, _, rfl, Or.inr ⟨SqT.of upd_same, q _ _ (us.length - i) (same_new hp) (tr_take_of (by omega) (by omega) (by rw [hr2]; exact hr0)) hz ⟨p, us.take (us.length - i), rfl, SqT.of upd_same, fra_mono (same_t (same_new hp)) (hA.take (us.length - i))⟩⟩⟩
      · have hr0 : r = 0 := by
          have := V.int.inj he
          exact Rat.num_eq_zero.mp this
        walk_at "rd"
        refine ⟨?_, rfl, fun c hc => ?_⟩
        · have e1 : ((us.length - i : Nat) : Int) - 1 = ((us.length - (i + 1) : Nat) : Int) := by omega
          rw [e1]
          rfl
        · have e1 : us.length - (i + 1) = us.length - i - 1 := by omega
          have e2 : us.length - i - 1 + 1 = us.length - i := by omega
          rw [e1, List.drop_eq_getElem_cons (by omega), hr2, e2] at hc
          rcases List.mem_cons.mp hc with z | z
          · rw [z, hr0]
          · exact hz c z
    · rintro σ H' ⟨o, rfl, rfl, hz⟩
      walk_at "rd"
      refine ⟨fun hw => ?_, fun hw p hp => ?_⟩
      · have em : us.length = us.length - us.length := by
          have h2 := hw.2
          rw [HT.sIx_nat, Nat.min_eq_left (by omega)] at h2
          exact h2.symm
        have et : us.take (us.length - us.length) = us := List.take_of_length_le (by omega)
        refine ⟨_, _, rfl, Or.inr ⟨hl, q _ _ (us.length - us.length) (Same.refl _) (by rw [Nat.sub_self]; exact tr_nil) hz ⟨l, us.take (us.length - us.length), rfl, by rw [et]; exact hl, hA.take (us.length - us.length)⟩⟩⟩
      · rw [cutV_take (by omega)]
        refine ⟨_, _, rfl, Or.inr ⟨SqT.of upd_same, q _ _ (us.length - us.length) (same_new hp) (by rw [Nat.sub_self]; exact tr_nil) hz ⟨p, us.take (us.length - us.length), rfl, SqT.of upd_same, fra_mono (same_t (same_new hp)) (hA.take (us.length - us.length))⟩⟩⟩
end
section
variable {P : Program} {w : World} {K : PySem.W.Frag} {mg : Str → Option Value} {base : Heap}
/-- _law_at -/
def spAt (K : PySem.W.Frag) : Sp := fun vs H Q _ => ∃ (x : V) (qs : List Rat) (k : Nat), vs = [x, .int (k : Int)] ∧ RwT K H x qs ∧ ∀ v H', Same H H' → FrT K H' v (qs.getD k 0) → Q v H'
theorem ev_getD_add (ps qs : List Rat) (M : Nat) (h1 : ps.length ≤ M) (h2 : qs.length ≤ M) (x : Rat) : ev ((List.range M).map fun i => ps.getD i 0 + qs.getD i 0) x = ev ps x + ev qs x := by
  have l1 : (ps ++ List.replicate (M - ps.length) (0 : Rat)).length = M := by rw [List.length_append, List.length_replicate]; omega
  have l2 : (qs ++ List.replicate (M - qs.length) (0 : Rat)).length = M := by rw [List.length_append, List.length_replicate]; omega
  have := ev_zip_add _ _ (l1.trans l2.symm) x
  rw [l1, ev_pad, ev_pad] at this
  rw [← this]
  congr 1
  refine List.map_congr_left fun i _ => ?_
  rw [getD_pad, getD_pad]
/-- a row times a fraction -/
def spScale (K : PySem.W.Frag) : Sp := fun vs H Q _ => ∃ (x y : V) (ps : List Rat) (c : Rat) (b e : Nat), vs = [x, y] ∧ RwT K H x ps ∧ FrT K H y c ∧ Qs b ps ∧ Qz e c ∧ b ≤ 900000 ∧ e ≤ 900000 ∧ ps.length < 900 ∧
  ∀ v r H', Same H H' → RwT K H' v r → Tr r → (∀ z, ev r z = c * ev ps z) → Qs (b + e) r → r.length ≤ ps.length → Q v H'
theorem sc__law_scaled : FnScope ["row", "by", "each"] ["row", "by"] (defScope s__law_scaled) := ⟨rfl, rfl, rfl, by decide +kernel, rfl, by decide +kernel, by decide +kernel⟩
theorem d__law_scaled (W : FunIn K mg "_law_scaled" s__law_scaled) (D_law_trim : Df P w K mg base "_law_trim" 33 ["numbers"] (spTrimL K)) (D_law_times : Df P w K mg base "_law_times" 34 ["one", "two"] (spR2 K (fun p q => p * q))) : Df P w K mg base "_law_scaled" 35 ["row", "by"] (spScale K) := by
  obtain ⟨f, fd, F, hm⟩ := W
  refine ⟨f, fd, F.ok sc__law_scaled (fun vs H Q E h => ?_) (fun cdv A outer s H vs Q E hr h => ?_), hm, F.kp, F.binds fun _ _ _ _ _ _ us hl => match us, hl with | [_, _], _ => rfl⟩
  · obtain ⟨x, y, ps, c, b, e, rfl, _⟩ := h
    rfl
  · obtain ⟨x, y, ps, c, b, e, rfl, ⟨a1, us, rfl, ha, hA⟩, hy, zp, zc, hb1, he1, lp, q⟩ := h
    have nd := sc__law_scaled.nd
    have hL1 := hA.length
    refine ⟨_, (pss_one (ps_ret (pe_d D_law_trim (hr.mono (by decide)) rfl (pa_cons (pe_lc (own := [("each", 2)]) rfl nd (pi_tup (pv 0)) (blkOk_by (own := [("each", 2)]) (N := ["row", "by", "each"]) (sc := defScope s__law_scaled) (by decide +kernel)) (fun _ _ _ _ _ => (pg_name (i := 2) nd rfl (Or.inl rfl) (Or.inr rfl))) (fun _ _ _ _ _ => pts_nil) (fun _ _ _ _ _ => (pe_d D_law_times (hr.mono (by decide)) rfl (pa_cons (pv 2) (pa_cons (pv 1) pa_nil))))) pa_nil)))), ?_⟩
    refine ⟨V.ref a1, rfl, a1, rfl, ⟨us, ha⟩, fun D hD => lc_map (walk_tup (K := K) (a := a1) (xs := us)) hD (by rw [sizeLine_eq]; omega) (fun i H' v => FrT K H' v (c * ps.getD i 0)) (fun i H' H'' v e h => h.mono e) (fun H1 s1 => same_seqT s1 ha) ?_ ?_⟩
    · rintro i u H1 H2 hi s1 _ ⟨rfl, hu⟩ Fin hF
      obtain ⟨r, hr, hfr⟩ := hA.get hu
      have zr : Qz 900000 r := (zp r (List.mem_of_getElem? hr)).mono hb1
      refine ⟨rfl, u, rfl, y, rfl, u, y, r, c, rfl, hfr.mono (same_t s1), hy.mono (same_t s1), zr, zc.mono he1, fun v H3 s3 hv => ?_⟩
      refine hF _ _ s3 ?_
      rw [getD_some hr, show c * r = r * c by grind]
      exact hv
    · intro H1 acc s1 hacc hlen1 hel
      have hA3 : FrA K H1 acc (ps.map (c * ·)) := by
        refine Al.of (by rw [List.length_map]; omega) fun i v g h1 h2 => ?_
        have h3 := hel i v h1
        rw [List.getElem?_map] at h2
        obtain ⟨r, hr, rfl⟩ := Option.map_eq_some_iff.mp h2
        rw [getD_some hr] at h3
        exact h3
      refine ⟨D, acc, _, rfl, SqL.of hacc, hA3, by omega, fun v H' k s4 ht hz hv => ?_⟩
      refine q v _ H' (s1.trans s4) hv ht (fun z => ?_) (fun g hg => ?_) ?_
      · rw [ev_take_drop _ _ hz, ev_scale]
      · obtain ⟨r, hr, rfl⟩ := List.mem_map.mp (List.mem_of_mem_take hg)
        rw [Nat.add_comm]
        exact Qz.mul zc (zp r hr)
      · rw [List.length_take, List.length_map]
        omega
def spLess (K : PySem.W.Frag) : Sp := fun vs H Q _ => ∃ (x y : V) (ps qs : List Rat) (b : Nat), vs = [x, y] ∧ RwT K H x ps ∧ RwT K H y qs ∧ Qs b ps ∧ Qs b qs ∧ 0 < b ∧ b ≤ 3000 ∧ ps.length < 900 ∧ qs.length < 900 ∧
  ∀ v r H', Same H H' → RwT K H' v r → Tr r → (∀ z, ev r z = ev ps z - ev qs z) → Qs (b + b + 3) r → r.length ≤ max ps.length qs.length → Q v H'
theorem qz_m1 : Qz 1 (-1) := ⟨by decide, by decide⟩
theorem frt_m1 {K : PySem.W.Frag} {H : Hp} {p : Addr} (h : SqT K H p [.int (-1), .int 1]) : FrT K H (.ref p) (-1) := ⟨p, rfl, h⟩
end

end Vx
-- pyl
-- big
set_option Elab.async false
set_option linter.all false
set_option maxRecDepth 100000
set_option maxHeartbeats 4000000
namespace Vx
open PySem PySem.Spec PyProof.Rows L2
local macro_rules | `(tactic| walk_at "cl") => `(tactic| first | assumption | exact Bz.mono (Bz.mul (by assumption) (by assumption)) (by decide) | rfl | omega | exact sz_of 0 rfl (by decide) | exact sz_of 1 rfl (by decide) | exact sz_of 2 rfl (by decide) | exact sz_of 3 rfl (by decide) | exact cmuly (by assumption) (by assumption) (by decide) | exact Bz.mono (Bz.mul (by assumption) (by assumption)) (by decide) | decide)
local macro_rules | `(tactic| walk_at "ex") => `(tactic| ((show Exists _); first | apply @Exists.intro V | apply @Exists.intro Int | apply @Exists.intro Addr | apply @Exists.intro (List V) | apply @Exists.intro Nat | apply @Exists.intro Str | apply @Exists.intro Bool | apply @Exists.intro (Option V) | apply @Exists.intro String | apply @Exists.intro Rat | apply @Exists.intro (List Rat)))
local macro_rules | `(tactic| walk_at "rd") => `(tactic| ((repeat (first | (walk_at "ex") | (apply And.intro; (focus (walk_at "cl"))))); (try dsimp only [])))
local macro_rules | `(tactic| walk_at "r0") => `(tactic| (repeat (first | (walk_at "ex") | (apply And.intro; (focus (walk_at "cl"))))))

section
variable {P : Program} {w : World} {K : PySem.W.Frag} {mg : Str → Option Value} {base : Heap}
/-- the law's own product -/
def bProd (l b1 b2 : Nat) : Nat := l * (b1 + b2 + 1) + 1
def spProd (K : PySem.W.Frag) : Sp := fun vs H Q _ => ∃ (x y : V) (ps qs : List Rat) (b1 b2 : Nat), vs = [x, y] ∧ RwT K H x ps ∧ RwT K H y qs ∧ Qs b1 ps ∧ Qs b2 qs ∧ ps.length < 400 ∧ qs.length < 400 ∧ bProd ps.length b1 b2 + b1 + b2 ≤ 900000 ∧
  ∀ v r H', Same H H' → RwT K H' v r → Tr r → (∀ z, ev r z = ev ps z * ev qs z) → Qs (bProd ps.length b1 b2) r → r.length ≤ ps.length + qs.length → Q v H'
theorem sc__law_product : FnScope ["one", "two", "found", "j", "k"] ["one", "two"] (defScope s__law_product) := ⟨rfl, rfl, rfl, by decide +kernel, rfl, by decide +kernel, by decide +kernel⟩
theorem d__law_product (W : FunIn K mg "_law_product" s__law_product) (T : Blt mg) (D_law_trim : Df P w K mg base "_law_trim" 33 ["numbers"] (spTrimL K)) (D_law_plus : Df P w K mg base "_law_plus" 34 ["one", "two"] (spR2 K (fun p q => p + q))) (D_law_times : Df P w K mg base "_law_times" 34 ["one", "two"] (spR2 K (fun p q => p * q))) : Df P w K mg base "_law_product" 35 ["one", "two"] (spProd K) := by
  obtain ⟨f, fd, F, hm⟩ := W
  refine ⟨f, fd, F.ok sc__law_product (fun vs H Q E h => ?_) (fun cdv A outer s H vs Q E hr h => ?_), hm, F.kp, F.binds fun _ _ _ _ _ _ us hl => match us, hl with | [_, _], _ => rfl⟩
  · obtain ⟨x, y, ps, qs, b1, b2, rfl, _⟩ := h
    rfl
  · obtain ⟨x, y, ps, qs, b1, b2, rfl, ⟨a1, us, rfl, ha, hA⟩, ⟨a2, vs, rfl, hb, hB⟩, zp, zq, lp, lq, hbd, q⟩ := h
    have nd := sc__law_product.nd
    unfold bProd at hbd
    have hL1 := hA.length
    have hL2 := hB.length
    refine ⟨_, (pss_cons (ps_set (i := 2) nd rfl (Or.inl rfl) (pe_op op_rep (pe_lst (pa_cons (pe_tup (pa_cons pe_int (pa_cons pe_int pa_nil))) pa_nil)) (pe_op op_add (pe_callB call_len_seq (by rfl) T.n_len (by decide +kernel) (pa_cons (pv 0) pa_nil)) (pe_callB call_len_seq (by rfl) T.n_len (by decide +kernel) (pa_cons (pv 1) pa_nil)))))
        (pss_cons (ps_for PassesOwn.never rfl (pi_range1 rfl T.n_range (pa_cons (pe_callB call_len_seq (by rfl) T.n_len (by decide +kernel) (pa_cons (pv 0) pa_nil)) pa_nil)) (pg_name (i := 3) nd rfl (Or.inl rfl) (Or.inr rfl)) (pss_one (ps_for PassesOwn.never rfl (pi_range1 rfl T.n_range (pa_cons (pe_callB call_len_seq (by rfl) T.n_len (by decide +kernel) (pa_cons (pv 1) pa_nil)) pa_nil)) (pg_name (i := 4) nd rfl (Or.inl rfl) (Or.inr rfl)) (pss_one (ps_asg (pe_d D_law_plus (hr.mono (by decide)) rfl (pa_cons (pe_ix ix_list (pv 2) (pe_op op_add (pv 3) (pv 4)) (fun _ _ => rfl)) (pa_cons (pe_d D_law_times (hr.mono (by decide)) rfl (pa_cons (pe_ix ix_tup (pv 0) (pv 3) (fun _ _ => rfl)) (pa_cons (pe_ix ix_tup (pv 1) (pv 4) (fun _ _ => rfl)) pa_nil))) pa_nil))) (pg_sub (pv 2) (pe_op op_add (pv 3) (pv 4)) set_list))))))
        (pss_one (ps_ret (pe_d D_law_trim (hr.mono (by decide)) rfl (pa_cons (pv 2) pa_nil)))))), ?_⟩
    walk_at "r0"
    intro p0 hp0
    have s0 := same_new (o := .tup [V.int 0, V.int 1]) hp0
    have e0 : SqT K (upd H p0 (.tup [V.int 0, V.int 1])) p0 [V.int 0, V.int 1] := SqT.of upd_same
    generalize upd H p0 (.tup [V.int 0, V.int 1]) = H0 at s0 e0
    have f0 : FrT K H0 (.ref p0) 0 := ⟨p0, rfl, e0⟩
    walk_at "r0"
    intro p1 hp1
    have s1 := same_new (o := .lst [V.ref p0]) hp1
    have e1 : upd H0 p1 (.lst [V.ref p0]) p1 = some (.lst [V.ref p0]) := upd_same
    generalize upd H0 p1 (.lst [V.ref p0]) = H1 at s1 e1
    have s01 := s0.trans s1
    have ha1 : SqL K H1 a1 us ∨ SqT K H1 a1 us := Or.inr (same_seqT s01 ha)
    have hb1 : SqL K H1 a2 vs ∨ SqT K H1 a2 vs := Or.inr (same_seqT s01 hb)
    have hlr : (us.length : Int) + (vs.length : Int) = ((ps.length + qs.length : Nat) : Int) := by omega
    have hsz : [V.ref p0].length * ((us.length : Int) + (vs.length : Int)).toNat ≤ sizeLine := by
      show 1 * _ ≤ _
      rw [hlr, Int.toNat_natCast, sizeLine_eq]
      omega
    walk_at "r0"
    rw [hlr]
    intro p hp
    have ef : (List.replicate ((ps.length + qs.length : Nat) : Int).toNat [V.ref p0]).flatten = List.replicate (ps.length + qs.length) (V.ref p0) := by
      rw [Int.toNat_natCast]
      generalize ps.length + qs.length = k
      induction k with
      | zero => rfl
      | succ k ih => rw [List.replicate_succ, List.flatten_cons, ih, List.replicate_succ]; rfl
    rw [ef]
    have hpH : H p = none := s01.free hp
    have s2 : Same H (upd H1 p (.lst (List.replicate (ps.length + qs.length) (V.ref p0)))) := s01.trans (same_new hp)
    have e2 : upd H1 p (.lst (List.replicate (ps.length + qs.length) (V.ref p0))) p = some (.lst (List.replicate (ps.length + qs.length) (V.ref p0))) := upd_same
    have f2 : FrT K (upd H1 p (.lst (List.replicate (ps.length + qs.length) (V.ref p0)))) (.ref p0) 0 := f0.mono (same_t (s1.trans (same_new hp)))
    generalize upd H1 p (.lst (List.replicate (ps.length + qs.length) (V.ref p0))) = H2 at s2 e2 f2
    have g2 : FrA K H2 (List.replicate (ps.length + qs.length) (V.ref p0)) (List.replicate (ps.length + qs.length) 0) := by
      generalize ps.length + qs.length = k
      induction k with
      | zero => exact .nil
      | succ k ih => exact .cons f2 ih
    have ha2 : SqL K H2 a1 us ∨ SqT K H2 a1 us := Or.inr (same_seqT s2 ha)
    refine ⟨V.ref a1, rfl, a1, us, rfl, ha2, (us.length : Int), rfl, by omega, by omega, for_range (n := us.length) (fun i σ H' => ∃ (acc : List V) (rs : List Rat) (o3 o4 : Option V), σ = [some (.ref a1), some (.ref a2), some (.ref p), o3, o4] ∧ Same H H' ∧ H' p = some (.lst acc) ∧ FrA K H' acc rs ∧ rs.length = ps.length + qs.length ∧ (∀ x, ev rs x = ev (ps.take i) x * ev qs x) ∧ Qs (i * (b1 + b2 + 1) + 1) rs)
      ⟨_, _, none, none, rfl, s2, e2, g2, List.length_replicate, fun x => ?_, fun r hr => ?_⟩ ?_ ?_⟩
    · rw [ev_replicate0, List.take_zero]
      show (0 : Rat) = 0 * _
      grind
    · rw [(List.mem_replicate.mp hr).2]
      exact qz0 (by omega)
    · rintro i σ H3 hi ⟨acc, rs, o3, o4, rfl, s3, e3, g3, lr, hev, hq⟩
      have hi' : i < ps.length := by omega
      have le1 : i * (b1 + b2 + 1) + (b1 + b2 + 1) ≤ ps.length * (b1 + b2 + 1) := by
        have := Nat.mul_le_mul_right (b1 + b2 + 1) (show i + 1 ≤ ps.length by omega)
        rw [Nat.add_mul, Nat.one_mul] at this
        exact this
      obtain ⟨r1, hr1, hfr1⟩ := hA.get (List.getElem?_eq_getElem hi)
      have hat1 : atI us (0 + (i : Int)) = some us[i] := at_of (j := i) (by omega) (List.getElem?_eq_getElem hi)
      have z1 : Qz b1 r1 := zp r1 (List.mem_of_getElem? hr1)
      have hb3 : SqL K H3 a2 vs ∨ SqT K H3 a2 vs := Or.inr (same_seqT s3 hb)
      refine ⟨V.ref a2, rfl, a2, vs, rfl, hb3, (vs.length : Int), rfl, by omega, by omega, for_range (n := vs.length) (fun j σ H' => ∃ (acc : List V) (rs : List Rat) (o4 : Option V), σ = [some (.ref a1), some (.ref a2), some (.ref p), some (.int (0 + (i : Int))), o4] ∧ Same H H' ∧ H' p = some (.lst acc) ∧ FrA K H' acc rs ∧ rs.length = ps.length + qs.length ∧ (∀ x, ev rs x = ev (ps.take i) x * ev qs x + r1 * x ^ i * ev (qs.take j) x) ∧ ∀ k r, rs[k]? = some r → Qz ((if k < i + j then i + 1 else i) * (b1 + b2 + 1) + 1) r)
        ⟨acc, rs, o4, rfl, s3, e3, g3, lr, fun x => ?_, fun k r hr => ?_⟩ ?_ ?_⟩
      · rw [hev, List.take_zero]
        show _ = _ + _ * 0
        grind
      · refine (hq r (List.mem_of_getElem? hr)).mono (Nat.add_le_add_right (Nat.mul_le_mul_right _ ?_) 1)
        split <;> omega
      · rintro j σ H4 hj ⟨acc, rs, o4, rfl, s4, e4, g4, lr, hev, hq⟩
        obtain ⟨r2, hr2, hfr2⟩ := hB.get (List.getElem?_eq_getElem hj)
        have hat2 : atI vs (0 + (j : Int)) = some vs[j] := at_of (j := j) (by omega) (List.getElem?_eq_getElem hj)
        have z2 : Qz b2 r2 := zq r2 (List.mem_of_getElem? hr2)
        have lA := g4.length
        have hk : i + j < rs.length := by omega
        have hk2 : i + j < acc.length := by omega
        obtain ⟨r3, hr3, hfr3⟩ := g4.get (List.getElem?_eq_getElem hk2)
        have hr3' : rs[i + j] = r3 := by
          rw [List.getElem?_eq_getElem hk] at hr3
          exact Option.some.inj hr3
        have eij : (0 + (i : Int)) + (0 + (j : Int)) = ((i + j : Nat) : Int) := by omega
        have hat3 : atI acc ((0 + (i : Int)) + (0 + (j : Int))) = some acc[i + j] := at_of (j := i + j) (by omega) (List.getElem?_eq_getElem hk2)
        have z3 := hq (i + j) r3 hr3
        rw [if_neg (by omega)] at z3
        have z1' : Qz 900000 r1 := z1.mono (by omega)
        have z2' : Qz 900000 r2 := z2.mono (by omega)
        have z3' : Qz 900000 r3 := z3.mono (by omega)
        have z12 : Qz 900000 (r1 * r2) := (Qz.mul z1 z2).mono (by omega)
        have q4 : SqL K H4 p acc := SqL.of e4
        have t1 := same_seqT s4 ha
        have t2 := same_seqT s4 hb
        have fr1 := hfr1.mono (same_t s4)
        have fr2 := hfr2.mono (same_t s4)
        refine ⟨_, rfl, V.int (0 + (i : Int)), rfl, V.int (0 + (j : Int)), rfl, _, _, rfl, rfl, p, acc, _, _, rfl, rfl, q4, hat3, ?_⟩
        refine ⟨_, rfl, V.int (0 + (i : Int)), rfl, a1, us, _, _, rfl, rfl, t1, hat1, _, rfl, V.int (0 + (j : Int)), rfl, a2, vs, _, _, rfl, rfl, t2, hat2, _, _, _, _, rfl, fr1, fr2, z1', z2', fun v5 H5 s5 hv5 => ?_⟩
        refine ⟨_, _, _, _, rfl, hfr3.mono (same_t s5), hv5, z3', z12, fun v6 H6 s6 hv6 => ?_⟩
        have s56 := s5.trans s6
        have e6 := s56 _ _ e4
        refine ⟨V.ref p, rfl, V.int (0 + (i : Int)), rfl, V.int (0 + (j : Int)), rfl, _, _, rfl, rfl, p, acc, _, i + j, rfl, rfl, e6, by rw [eij]; exact ixN_nat hk2, ?_⟩
        have g6 : FrA K (upd H6 p (.lst (acc.set (i + j) v6))) (acc.set (i + j) v6) (rs.set (i + j) (rs[i + j] + r1 * r2)) := by
          refine Al.set (fra_mono ((same_t s56).trans (samet_lst e6)) g4) _ ?_
          rw [hr3']
          exact hv6.mono (samet_lst e6)
        refine ⟨_, _, _, rfl, fun c o e => ?_, upd_same, g6, by rw [List.length_set]; exact lr, fun x => ?_, fun k r hr' => ?_⟩
        · rw [upd_ne (ne_of_none e hpH)]
          exact s56 _ _ (s4 _ _ e)
        · rw [ev_set hk, hev, rw_take_succ hr2, rpow_add]
          grind
        · rw [List.getElem?_set] at hr'
          split at hr'
          · rename_i hkk
            subst hkk
            cases hr'
            rw [if_pos (by omega), hr3']
            refine (Qz.add z3 (Qz.mul z1 z2)).mono ?_
            rw [Nat.add_mul, Nat.one_mul]
            omega
          · refine (hq k r hr').mono (Nat.add_le_add_right (Nat.mul_le_mul_right _ ?_) 1)
            split <;> split <;> omega
      · rintro σ H4 ⟨acc, rs, o4, rfl, s4, e4, g4, lr, hev, hq⟩
        refine ⟨acc, rs, _, _, rfl, s4, e4, g4, lr, fun x => ?_, fun r hr => ?_⟩
        · rw [hev, rw_take_succ hr1, hL2, List.take_length]
          grind
        · obtain ⟨k, hk⟩ := List.mem_iff_getElem?.mp hr
          refine (hq k r hk).mono (Nat.add_le_add_right (Nat.mul_le_mul_right _ ?_) 1)
          split <;> omega
    · rintro σ H3 ⟨acc, rs, o3, o4, rfl, s3, e3, g3, lr, hev, hq⟩
      rw [hL1, List.take_length] at hev
      rw [hL1] at hq
      have lA := g3.length
      refine ⟨V.ref p, rfl, p, acc, rs, rfl, SqL.of e3, g3, by omega, fun v H' k s4 ht hz hv => ?_⟩
      refine q v _ H' (s3.trans s4) hv ht (fun z => ?_) (hq.take k) ?_
      · rw [ev_take_drop _ _ hz, hev]
      · rw [List.length_take]
        omega
end
section
variable {P : Program} {w : World} {K : PySem.W.Frag} {mg : Str → Option Value} {base : Heap}
/-- a drawn row -/
def spDrawn (K : PySem.W.Frag) : Sp := fun vs H Q _ => ∃ (a : Addr) (m : Nat), vs = [.ref a, .int (m : Int)] ∧ RlAt a H ∧ m < 100 ∧ ∀ v r H', RlAt a H' → But a H H' → RwT K H' v r → Tr r → Qs 4 r → r.length ≤ m → Q v H'
theorem tr_snoc {qs : List Rat} {q : Rat} (h : q ≠ 0) : Tr (qs ++ [q]) := fun hn => by
  rw [List.getLast_append_right (List.cons_ne_nil _ _)]
  exact h
theorem sc__law_drawn : FnScope ["reel", "most", "many", "found", "k"] ["reel", "most"] (defScope s__law_drawn) := ⟨rfl, rfl, rfl, by decide +kernel, rfl, by decide +kernel, by decide +kernel⟩
theorem d__law_drawn (W : FunIn K mg "_law_drawn" s__law_drawn) (T : Blt mg) (D_law_pull : Df P w K mg base "_law_pull" 1 ["reel", "many"] spPull) (D_law_part : Df P w K mg base "_law_part" 34 ["reel"] (spPart K)) (D_law_some : Df P w K mg base "_law_some" 35 ["reel"] (spSome K)) : Df P w K mg base "_law_drawn" 36 ["reel", "most"] (spDrawn K) := by
  obtain ⟨f, fd, F, hm⟩ := W
  refine ⟨f, fd, F.ok sc__law_drawn (fun vs H Q E h => ?_) (fun cdv A outer s H vs Q E hr h => ?_), hm, F.kp, F.binds fun _ _ _ _ _ _ us hl => match us, hl with | [_, _], _ => rfl⟩
  · obtain ⟨a, m, rfl, _⟩ := h
    rfl
  · obtain ⟨a, m, rfl, hR, hm, q⟩ := h
    have nd := sc__law_drawn.nd
    refine ⟨_, (pss_cons (ps_par (i := 2) (j := 3) (by rfl) nd rfl rfl (by decide) rfl rfl (pa_cons (pe_d D_law_pull (hr.mono (by decide)) rfl (pa_cons (pv 0) (pa_cons (pe_op op_add (pv 1) pe_int) pa_nil))) (pa_cons (pe_lst pa_nil) pa_nil)) (by rfl))
        (pss_cons (ps_for PassesOwn.never rfl (pi_range1 rfl T.n_range (pa_cons (pv 2) pa_nil)) (pg_name (i := 4) nd rfl (Or.inl rfl) (Or.inr rfl)) (pss_one (ps_expr (pe_bm PySem.F.plainAttrs_list PySem.F.slot_list_append PySem.F.type_list_append mt_append (pv 3) (pa_cons (pe_ifExp (pt_cmpR op_lt (pv 4) (pe_op op_sub (pv 2) pe_int) (nomark _)) (pe_d D_law_part (hr.mono (by decide)) rfl (pa_cons (pv 0) pa_nil)) (pe_d D_law_some (hr.mono (by decide)) rfl (pa_cons (pv 0) pa_nil))) pa_nil)))))
        (pss_one (ps_ret (pe_callTy call_tuple_of (by rfl) T.n_tuple (by decide +kernel) (pa_cons (pv 3) pa_nil)))))), ?_⟩
    refine ⟨V.ref a, rfl, V.int (m : Int), rfl, _, _, rfl, rfl, a, _, rfl, hR, by omega, by omega, fun n H1 n0 n1 hR1 hB1 => ?_⟩
    refine ⟨by show 0 ≤ sizeLine; exact Nat.zero_le _, fun p hp => ?_⟩
    have pa : a ≠ p := by
      obtain ⟨_, _, _, e⟩ := hR1
      exact ne_of_none e hp
    have hpH : H p = none := by
      cases e : H p with
      | none => rfl
      | some o => rw [hB1 p o e (Ne.symm pa)] at hp; cases hp
    have hR2 : RlAt a (upd H1 p (.lst [])) := same_rl hR1 (same_new hp)
    have hB2 : But a H (upd H1 p (.lst [])) := but_trans hB1 (same_but a (same_new hp))
    have e2 : upd H1 p (.lst []) p = some (.lst []) := upd_same
    generalize upd H1 p (.lst []) = H2 at hR2 hB2 e2
    refine ⟨_, _, rfl, V.int n, rfl, n, rfl, by omega, by omega, for_range (n := n.toNat) (fun i σ H' => ∃ (acc : List V) (qs : List Rat) (o : Option V), σ = [some (.ref a), some (.int (m : Int)), some (.int n), some (.ref p), o] ∧ RlAt a H' ∧ But a H H' ∧ H' p = some (.lst acc) ∧ FrA K H' acc qs ∧ qs.length = i ∧ Qs 4 qs ∧ (i = n.toNat → Tr qs))
      ⟨[], [], none, rfl, hR2, hB2, e2, .nil, rfl, fun c hc => (by cases hc), fun _ => tr_nil⟩ ?_ ?_⟩
    · rintro i σ H3 hi ⟨acc, qs, o, rfl, hR3, hB3, e3, g3, lq, zq, ht⟩
      have lA := g3.length
      have fin : ∀ v r H4, RlAt a H4 → But a H3 H4 → FrT K H4 v r → Qz 4 r → (i + 1 = n.toNat → r ≠ 0) → ∃ l xs y, V.ref p = V.ref l ∧ [v] = [y] ∧ H4 l = some (.lst xs) ∧ xs.length < sizeLine ∧ (∃ (acc : List V) (qs : List Rat) (o : Option V), [some (.ref a), some (.int (m : Int)), some (.int n), some (.ref p), some (V.int (0 + (i : Int)))] = [some (.ref a), some (.int (m : Int)), some (.int n), some (.ref p), o] ∧ RlAt a (upd H4 l (.lst (xs ++ [y]))) ∧ But a H (upd H4 l (.lst (xs ++ [y]))) ∧ (upd H4 l (.lst (xs ++ [y]))) p = some (.lst acc) ∧ FrA K (upd H4 l (.lst (xs ++ [y]))) acc qs ∧ qs.length = i + 1 ∧ Qs 4 qs ∧ (i + 1 = n.toNat → Tr qs)) := by
        intro v r H4 hR4 hB4 hv hz hne
        have e4 : H4 p = some (.lst acc) := hB4 _ _ e3 (Ne.symm pa)
        have st := but_samet hR3 hB4
        refine ⟨p, acc, v, rfl, rfl, e4, by rw [sizeLine_eq]; omega, acc ++ [v], qs ++ [r], _, rfl, ?_, fun c o e nc => ?_, upd_same, ?_, by rw [List.length_append, lq]; rfl, ?_, fun hn => tr_snoc (hne hn)⟩
        · obtain ⟨x, y, z, e⟩ := hR4
          exact ⟨x, y, z, by rw [upd_ne pa]; exact e⟩
        · rw [upd_ne (ne_of_none e hpH)]
          exact hB4 _ _ (hB3 _ _ e nc) nc
        · exact (fra_mono (st.trans (samet_lst e4)) g3).append (.cons (hv.mono (samet_lst e4)) .nil)
        · intro c hc
          rcases List.mem_append.mp hc with z | z
          · exact zq c z
          · rw [List.mem_singleton.mp z]
            exact hz
      walk_at "r0"
      refine ⟨Or.inl ⟨rfl, _, SqL.of e3⟩, ?_⟩
      walk_at "r0"
      refine tif (fun hk => ?_) (fun hk => ?_)
      · exact ⟨V.ref a, rfl, a, rfl, hR3, fun v r H4 hR4 hB4 hv hz => fin v r H4 hR4 hB4 hv hz (fun hn => by omega)⟩
      · exact ⟨V.ref a, rfl, a, rfl, hR3, fun v r H4 hR4 hB4 hv hz hne => fin v r H4 hR4 hB4 hv hz (fun _ => hne)⟩
    · rintro σ H3 ⟨acc, qs, o, rfl, hR3, hB3, e3, g3, lq, zq, ht⟩
      refine ⟨V.ref p, rfl, p, acc, rfl, Or.inl ⟨SqL.of e3, fun t htf => ?_⟩⟩
      have s4 := same_new (o := .tup acc) htf
      exact q _ qs _ (same_rl hR3 s4) (but_trans hB3 (same_but a s4)) ⟨t, acc, rfl, SqT.of upd_same, fra_mono (same_t s4) g3⟩ (ht rfl) zq (by omega)
/-- the law's own worth -/
def bOwn (l b c : Nat) : Nat := l * (b + l * c + 3) + 1
def spOwn (K : PySem.W.Frag) : Sp := fun vs H Q _ => ∃ (x y : V) (qs : List Rat) (z : Rat) (b c : Nat), vs = [x, y] ∧ RwT K H x qs ∧ FrT K H y z ∧ Qs b qs ∧ Qz c z ∧ qs.length < 400 ∧ bOwn qs.length b c + b + qs.length * c + c + 1 ≤ 900000 ∧
  ∀ v H', Same H H' → FrT K H' v (ev qs z) → Qz (bOwn qs.length b c) (ev qs z) → Q v H'
end

end Vx
namespace Vx
open PySem PySem.Spec PyProof.Rows L2
section
variable {X : Cx}
theorem call_isiTup : CallR X (.builtin "isinstance") (fun vs H Q => ∃ a xs, vs = [.ref a, .ty "tuple"] ∧ SqT X.K H a xs ∧ Q (.bl true) H) := by
  intro pins s σ H xs us Q I r h
  obtain ⟨a, ys, rfl, hq, q⟩ := h
  refine call_isi pins s σ H _ us Q I r ⟨_, _, .type "tuple", _, true, rfl, .ty "tuple", ?_, by rfl, q⟩
  rcases hq with h | ⟨o, its, n, h, c, _⟩
  · rcases h with h | ⟨o, h⟩
    · exact .base (.tup h)
    · exact .fTuple h
  · exact .kTuple h c
theorem call_isiInt : CallR X (.builtin "isinstance") (fun vs H Q => ∃ i, vs = [.int i, .ty "int"] ∧ Q (.bl true) H) := by
  intro pins s σ H xs us Q I r h
  obtain ⟨i, rfl, q⟩ := h
  exact call_isi pins s σ H _ us Q I r ⟨_, _, .type "int", _, true, rfl, .ty "int", .base (.int i), by rfl, q⟩
theorem call_isiBool : CallR X (.builtin "isinstance") (fun vs H Q => ∃ i, vs = [.int i, .ty "bool"] ∧ Q (.bl false) H) := by
  intro pins s σ H xs us Q I r h
  obtain ⟨i, rfl, q⟩ := h
  exact call_isi pins s σ H _ us Q I r ⟨_, _, .type "int", _, false, rfl, .ty "bool", .base (.int i), by rfl, q⟩
end
end Vx
namespace Vx
open PySem PySem.Spec PyProof.Rows L2
structure Sz (d : PyData) (n k : Nat) : Prop where
  sh : d.showable = true
  de : d.depth ≤ k
  c : cost d ≤ n
structure SzA (ds : List PyData) (n k : Nat) : Prop where
  sh : PyData.showableAll ds = true
  de : PyData.depthAll ds ≤ k
  c : costs ds ≤ n
theorem SzA.nil : SzA [] 0 0 := ⟨rfl, by simp [PyData.depthAll], Nat.le_refl _⟩
theorem Sz.cons {d : PyData} {ds : List PyData} {n k m j : Nat} (h : Sz d n k) (t : SzA ds m j) : SzA (d :: ds) (n + 2 + m) (max k j) := by
  refine ⟨?_, ?_, ?_⟩
  · simp only [PyData.showableAll, h.sh, t.sh, Bool.and_self]
  · simp only [PyData.depthAll]
    have := h.de
    have := t.de
    omega
  · show cost d + 2 + costs ds ≤ _
    have := h.c
    have := t.c
    omega
theorem SzA.lst {ds : List PyData} {n k : Nat} (h : SzA ds n k) : Sz (.list ds) (n + 2) (k + 1) := by
  refine ⟨by simpa [PyData.showable] using h.sh, ?_, ?_⟩
  · have := h.de
    simp only [PyData.depth]
    omega
  · show costs ds + 2 ≤ _
    have := h.c
    omega
theorem SzA.tup {ds : List PyData} {n k : Nat} (h : SzA ds n k) : Sz (.tuple ds) (n + 3) (k + 1) := by
  refine ⟨by simpa [PyData.showable] using h.sh, ?_, ?_⟩
  · have := h.de
    simp only [PyData.depth]
    omega
  · show costs ds + 3 ≤ _
    have := h.c
    omega
theorem Sz.ok {d : PyData} {n k : Nat} (h : Sz d n k) (hk : k < 60) (hn : n ≤ 16000000) : Okd d := ⟨h.sh, Nat.lt_of_le_of_lt h.de hk, Nat.le_trans h.c hn⟩
theorem sz_rw {r : List Rat} (h : Qs 1900 r) (hl : r.length ≤ 60) : Sz (dRw r) 231200 3 := by
  refine ⟨?_, ?_, ?_⟩
  · unfold dRw
    simpa [PyData.showable] using showA_rw r h
  · have := depth_rw r
    unfold dRw
    simp only [PyData.depth]
    omega
  · show costs (r.map dFr) + 3 ≤ _
    rw [costs_fr]
    omega
theorem sz_fr {q : Rat} (h : Qz 1900 q) : Sz (dFr q) 3851 2 := by
  refine ⟨?_, ?_, Nat.le_refl _⟩
  · have := showA_rw [q] (fun c hc => by rw [List.mem_singleton.mp hc]; exact h)
    simpa [PyData.showableAll] using this
  · unfold dFr
    simp [PyData.depth, PyData.depthAll]
theorem sz_bl (b : Bool) : Sz (.bool b) 5 1 := ⟨by simp [PyData.showable], by simp [PyData.depth], Nat.le_refl _⟩
/-- two ways, one end -/
theorem if_join {c : Prop} [Decidable c] {tA tB : TE} {σ : L2.St} {H : Hp} {Qc : VK} (R : V → Hp → Prop) (hA : c → ∀ Q : VK, (∀ v H', R v H' → Q v H') → tA σ H Q) (hB : ¬ c → ∀ Q : VK, (∀ v H', R v H' → Q v H') → tB σ H Q)
    (k : ∀ v H', R v H' → Qc v H') : if decide c = true then tA σ H Qc else tB σ H Qc := tif (fun h => hA h Qc k) fun h => hB h Qc k
theorem ev_nil (z : Rat) : ev [] z = 0 := rfl
/-- what is a product with d leaves no rest -/
theorem div_zero' {d q r a : List Rat} (hd : Tr d) (hnd : d ≠ []) (hq : Tr q) (hr : Tr r) (hl : r.length < d.length) (h : ∀ z, ev q z * ev d z + ev r z = ev a z * ev d z) : r = [] := by
  obtain ⟨t, h1, _, h3⟩ := trim_ex a
  refine (div_unique hd hnd hq h1 hr tr_nil hl (List.length_pos_iff.mpr hnd) fun z => ?_).2
  rw [h, h3, ev_nil]
  grind
theorem prod_ne {a b r : List Rat} (ha : Tr a) (hb : Tr b) (hna : a ≠ []) (hnb : b ≠ []) (hr : Tr r) (h : ∀ z, ev r z = ev a z * ev b z) : r ≠ [] := fun e => by
  have e2 : pmul a b = r := ev_inj (tr_pmul ha hb hna hnb) hr fun z => by rw [ev_pmul, h]
  have l := (pmul_shape a b hna hnb).1
  have l1 := List.length_pos_iff.mpr hna
  have l2 := List.length_pos_iff.mpr hnb
  rw [e2, e, List.length_nil] at l
  omega
theorem tr_dropZ {qs : List Rat} {m : Nat} : (qs.take m).length ≤ qs.length := by
  rw [List.length_take]
  omega
end Vx
namespace Vx
open PySem PySem.Spec PyProof.Rows L2
theorem rep_q {k : Nat} {xs ys : List V} {p : Addr} {H : Hp} {Q : VK} {y : V} (hy : y = .int (k : Int)) (h : H p = some (.lst xs)) (hk : k ≤ 1000) (hl : xs.length ≤ 100) (e : (List.replicate k xs).flatten = ys) (q : ∀ q0, H q0 = none → Q (.ref q0) (upd H q0 (.lst ys))) : rRep (.ref p) y H Q := by
  subst e hy
  refine ⟨p, k, xs, rfl, rfl, h, by omega, by omega, ?_, fun q0 h0 => ?_⟩
  · rw [Int.toNat_natCast, sizeLine_eq]
    have : xs.length * k ≤ 100 * 1000 := Nat.mul_le_mul hl hk
    omega
  · rw [Int.toNat_natCast]
    exact q q0 h0
end Vx
namespace Vx
open PySem PySem.Spec PyProof.Rows L2
theorem rep_qc {k : Nat} {xs ys : List V} {p : Addr} {H : Hp} {Q : VK} {y : V} {σ : L2.St} (hy : y = .int (k : Int)) (h : H p = some (.lst xs)) (hk : k ≤ 1000) (hl : xs.length ≤ 100) (e : (List.replicate k xs).flatten = ys) (q : ∀ q0, H q0 = none → Q (.ref q0) (upd H q0 (.lst ys))) : tC y σ H fun y H2 => rRep (.ref p) y H2 Q := rep_q hy h hk hl e q
end Vx
namespace Vx
open PySem PySem.Spec PyProof.Rows L2
/-- a statement, then the rest: what is known between them -/
theorem seq_cut {S T : TS} {D : Ends} {σ : L2.St} {H : Hp} (R : L2.St → Hp → Prop) (h1 : ∀ nx : L2.St → Hp → Prop, (∀ σ' H', R σ' H' → nx σ' H') → S { D with nx := nx } σ H)
    (h2 : ∀ σ' H', R σ' H' → T D σ' H') : tSeq S T D σ H := h1 _ h2
end Vx
namespace Vx
open PySem PySem.Spec PyProof.Rows L2
theorem if_no {c : Prop} [Decidable c] {A B : Prop} (h : ¬ c) (q : B) : if decide c = true then A else B := by
  rw [decide_eq_false h, if_neg Bool.false_ne_true]
  exact q
theorem if_yes {c : Prop} [Decidable c] {A B : Prop} (h : c) (q : A) : if decide c = true then A else B := by
  rw [decide_eq_true h, if_pos rfl]
  exact q
end Vx
namespace Vx
open PySem PySem.Spec PyProof.Rows L2
theorem not_dec {c : Prop} [Decidable c] (h : c) : (!decide c) = false := by
  rw [decide_eq_true h]
  rfl
theorem notb {b : Bool} (h : b = true) : (!decide (b = true)) = false := by
  subst h
  rfl
theorem if_ff {A B : Prop} (q : B) : if false = true then A else B := q
theorem ev_one (z : Rat) : ev [1] z = 1 := by
  show (1 : Rat) + z * 0 = 1
  grind
theorem qs_ladd {b : Nat} : ∀ {p q : List Rat} {a : Nat}, Qs a p → Qs b q → Qs (a + b + 1) (ladd p q)
  | [], q, a, _, h => by
    show Qs (a + b + 1) q
    exact h.mono (by omega)
  | x :: p, [], a, h, _ => by
    show Qs (a + b + 1) (x :: p)
    exact h.mono (by omega)
  | x :: p, y :: q, a, h, k => by
    intro c hc
    rcases List.mem_cons.mp hc with rfl | hc
    · exact Qz.add (h x List.mem_cons_self) (k y List.mem_cons_self)
    · exact qs_ladd (fun c h' => h c (List.mem_cons_of_mem _ h')) (fun c h' => k c (List.mem_cons_of_mem _ h')) c hc
theorem qs_smul {a b : Nat} {x : Rat} {q : List Rat} (h : Qz a x) (k : Qs b q) : Qs (a + b) (q.map (x * ·)) := fun c hc => by
  obtain ⟨y, hy, rfl⟩ := List.mem_map.mp hc
  exact Qz.mul h (k y hy)
theorem qs_pmul {a b : Nat} : ∀ {p q : List Rat}, Qs a p → Qs b q → Qs (p.length * (a + b + 1)) (pmul p q)
  | [], q, _, _ => fun c hc => by cases hc
  | [x], q, h, k => by
    show Qs _ (q.map (x * ·))
    exact (qs_smul (h x List.mem_cons_self) k).mono (by simp)
  | x :: y :: p, q, h, k => by
    show Qs _ (ladd (q.map (x * ·)) (0 :: pmul (y :: p) q))
    have ih := qs_pmul (p := y :: p) (fun c h' => h c (List.mem_cons_of_mem _ h')) k
    have e : (x :: y :: p).length * (a + b + 1) = (a + b) + (y :: p).length * (a + b + 1) + 1 := by
      rw [List.length_cons, Nat.add_mul, Nat.one_mul]
      omega
    have hp : 0 < (y :: p).length * (a + b + 1) := Nat.mul_pos (by simp) (by omega)
    rw [e]
    refine qs_ladd (qs_smul (h x List.mem_cons_self) k) fun c hc => ?_
    rcases List.mem_cons.mp hc with rfl | hc
    · exact qz0 hp
    · exact ih c hc
theorem ev_nil_of {a b r : List Rat} (hr : Tr r) (h : ∀ z, ev r z = ev a z * ev b z) (e : a = [] ∨ b = []) : r = [] := ev_inj hr tr_nil fun z => by
  rw [h]
  rcases e with rfl | rfl
  · show (0 : Rat) * _ = 0
    grind
  · show _ * (0 : Rat) = 0
    grind
theorem prod_is {a b r : List Rat} (ha : Tr a) (hb : Tr b) (hr : Tr r) (h : ∀ z, ev r z = ev a z * ev b z) (na : a ≠ []) (nb : b ≠ []) : r = pmul a b := ev_inj hr (tr_pmul ha hb na nb) fun z => by rw [h, ev_pmul]
theorem prod_len {a b r : List Rat} (ha : Tr a) (hb : Tr b) (hr : Tr r) (h : ∀ z, ev r z = ev a z * ev b z) {n m : Nat} (hn : a.length ≤ n) (hm : b.length ≤ m) : r.length ≤ n + m - 1 := by
  by_cases e : a = [] ∨ b = []
  · rw [ev_nil_of hr h e]
    exact Nat.zero_le _
  · rw [prod_is ha hb hr h (fun z => e (.inl z)) fun z => e (.inr z)]
    have := (pmul_shape a b (fun z => e (.inl z)) fun z => e (.inr z)).1
    omega
theorem prod_qs {a b r : List Rat} (ha : Tr a) (hb : Tr b) (hr : Tr r) (h : ∀ z, ev r z = ev a z * ev b z) {n c d : Nat} (hc : Qs c a) (hd : Qs d b) (hn : a.length ≤ n) : Qs (n * (c + d + 1)) r := by
  by_cases e : a = [] ∨ b = []
  · rw [ev_nil_of hr h e]
    exact fun _ h => by cases h
  · rw [prod_is ha hb hr h (fun z => e (.inl z)) fun z => e (.inr z)]
    exact (qs_pmul hc hd).mono (Nat.mul_le_mul_right _ hn)
end Vx
namespace Vx
open PySem PySem.Spec PyProof.Rows L2
theorem rSlA_takeW {K : PySem.W.Frag} {H : Hp} {x : V} {qs : List Rat} {m : Nat} {Q : VK} (h : RwT K H x qs) (q : ∀ v H', Same H H' → RwT K H' v (qs.take m) → Q v H') : rSlA K x none (some (m : Int)) H Q := by
  by_cases hm : m ≤ qs.length
  · exact rSlA_take h hm q
  obtain ⟨a, us, rfl, ha, hA⟩ := h
  have hL := hA.length
  refine ⟨a, us, rfl, ha, fun hw => ?_, fun hw p hp => ?_⟩
  · rw [List.take_of_length_le (show qs.length ≤ m by omega)] at q
    exact q _ H (Same.refl _) ⟨a, us, rfl, ha, hA⟩
  · refine absurd ⟨?_, ?_⟩ hw
    · rfl
    · rw [HT.sIx_nat, Nat.min_eq_right (by omega)]
end Vx
namespace Vx
def at0 (l : List Rat) (i : Nat) : Rat := l.getD i 0
theorem at0_map {f : Nat → Rat} {n i : Nat} (h : i < n) : at0 ((List.range n).map f) i = f i := by
  unfold at0
  rw [List.getD_eq_getElem?_getD, List.getElem?_map, List.getElem?_range h]
  rfl
theorem at0_out {l : List Rat} {i : Nat} (h : l.length ≤ i) : at0 l i = 0 := by
  unfold at0
  rw [List.getD_eq_getElem?_getD, List.getElem?_eq_none h]
  rfl
theorem at0_some {l : List Rat} {i : Nat} {c : Rat} (h : l[i]? = some c) : at0 l i = c := by
  unfold at0
  rw [List.getD_eq_getElem?_getD, h]
  rfl
theorem at0_get {l : List Rat} {i : Nat} (h : i < l.length) : l[i]? = some (at0 l i) := by
  unfold at0
  rw [List.getD_eq_getElem?_getD, List.getElem?_eq_getElem h]
  rfl
theorem at0_mem {l : List Rat} {i : Nat} (h : i < l.length) : at0 l i ∈ l := List.mem_of_getElem? (at0_get h)
theorem ext0 {l m : List Rat} (h : l.length = m.length) (e : ∀ i, i < l.length → at0 l i = at0 m i) : l = m := by
  refine List.ext_getElem? fun i => ?_
  by_cases hi : i < l.length
  · rw [at0_get hi, at0_get (by omega), e i hi]
  · rw [List.getElem?_eq_none (by omega), List.getElem?_eq_none (by omega)]
def smul (c : Rat) (l : List Rat) : List Rat := l.map (c * ·)
theorem smul_len (c : Rat) (l : List Rat) : (smul c l).length = l.length := List.length_map _
theorem at0_smul (c : Rat) (l : List Rat) (i : Nat) : at0 (smul c l) i = c * at0 l i := by
  by_cases h : i < l.length
  · refine at0_some ?_
    unfold smul
    rw [List.getElem?_map, at0_get h]
    rfl
  · rw [at0_out (by rw [smul_len]; omega), at0_out (by omega)]
    grind
theorem smul_smul (c d : Rat) (l : List Rat) : smul c (smul d l) = smul (c * d) l := ext0 (by simp only [smul_len]) fun i _ => by
  simp only [at0_smul]
  grind
theorem smul_one (l : List Rat) : smul 1 l = l := ext0 (smul_len _ _) fun i _ => by
  rw [at0_smul]
  grind
/-! one bend more, one bend less -/
def up (k : Rat) (l : List Rat) : List Rat := (List.range (l.length + 1)).map fun i => at0 l i + k * at0 l (l.length - i)
def upR : List Rat → List Rat
  | [] => [1]
  | k :: ks => up k (upR ks)
def nx (l : List Rat) : List Rat := (List.range (l.length - 1)).map fun i => at0 l 0 * at0 l i - at0 l (l.length - 1) * at0 l (l.length - 1 - i)
def fb : Nat → List Rat → Option (List Rat)
  | 0, _ => some []
  | n + 1, l => if at0 l 0 * at0 l 0 ≤ at0 l (l.length - 1) * at0 l (l.length - 1) then none else (fb n (nx l)).map (at0 l (l.length - 1) / at0 l 0 :: ·)
theorem fb_succ (n : Nat) (l : List Rat) : fb (n + 1) l = if at0 l 0 * at0 l 0 ≤ at0 l (l.length - 1) * at0 l (l.length - 1) then none else (fb n (nx l)).map (at0 l (l.length - 1) / at0 l 0 :: ·) := rfl
theorem up_len (k : Rat) (l : List Rat) : (up k l).length = l.length + 1 := by
  unfold up
  rw [List.length_map, List.length_range]
theorem nx_len (l : List Rat) : (nx l).length = l.length - 1 := by
  unfold nx
  rw [List.length_map, List.length_range]
theorem upR_len : ∀ ks : List Rat, (upR ks).length = ks.length + 1
  | [] => rfl
  | k :: ks => by
    show (up k (upR ks)).length = _
    rw [up_len, upR_len ks]
    rfl
theorem at0_up {k : Rat} {l : List Rat} {i : Nat} (h : i ≤ l.length) : at0 (up k l) i = at0 l i + k * at0 l (l.length - i) := at0_map (by omega)
theorem at0_nx {l : List Rat} {i : Nat} (h : i < l.length - 1) : at0 (nx l) i = at0 l 0 * at0 l i - at0 l (l.length - 1) * at0 l (l.length - 1 - i) := at0_map h
theorem up_head {k : Rat} {l : List Rat} : at0 (up k l) 0 = at0 l 0 := by
  rw [at0_up (Nat.zero_le _), Nat.sub_zero, at0_out (Nat.le_refl l.length)]
  grind
theorem up_last {k : Rat} {l : List Rat} : at0 (up k l) l.length = k * at0 l 0 := by
  rw [at0_up (Nat.le_refl _), Nat.sub_self, at0_out (Nat.le_refl l.length)]
  grind
theorem upR_head : ∀ ks : List Rat, at0 (upR ks) 0 = 1
  | [] => rfl
  | k :: ks => by
    show at0 (up k (upR ks)) 0 = 1
    rw [up_head, upR_head ks]
theorem nx_smul {c : Rat} {l : List Rat} : nx (smul c l) = smul (c * c) (nx l) := ext0 (by rw [nx_len, smul_len, smul_len, nx_len]) fun i hi => by
  rw [nx_len, smul_len] at hi
  rw [at0_nx (by rw [smul_len]; exact hi), at0_smul, at0_smul, at0_smul, at0_smul, at0_smul, at0_nx hi, smul_len]
  grind
theorem sq_scale {c x y : Rat} (hc : c ≠ 0) : (c * x * (c * x) ≤ c * y * (c * y)) ↔ (x * x ≤ y * y) := by
  have hp : 0 < c * c := by
    rcases (by grind : c < 0 ∨ 0 < c) with h | h
    · have := Rat.mul_pos (show 0 < -c by grind) (show 0 < -c by grind)
      grind
    · exact Rat.mul_pos h h
  have e1 : c * x * (c * x) = (c * c) * (x * x) := by grind
  have e2 : c * y * (c * y) = (c * c) * (y * y) := by grind
  rw [e1, e2]
  constructor
  · intro h
    refine Classical.byContradiction fun z => ?_
    have h1 : 0 < x * x - y * y := by grind
    have h2 := Rat.mul_pos hp h1
    grind
  · intro h
    exact Rat.mul_le_mul_of_nonneg_left h (Rat.le_of_lt hp)
theorem fb_smul : ∀ (n : Nat) {c : Rat} (l : List Rat), c ≠ 0 → fb n (smul c l) = fb n l
  | 0, _, _, _ => rfl
  | n + 1, c, l, hc => by
    rw [fb_succ, fb_succ, at0_smul, at0_smul, smul_len, nx_smul, fb_smul n (nx l) (by grind : c * c ≠ 0)]
    have e : c * at0 l (l.length - 1) / (c * at0 l 0) = at0 l (l.length - 1) / at0 l 0 := by
      by_cases h : at0 l 0 = 0
      · rw [h]
        grind
      · grind
    rw [e]
    by_cases h : at0 l 0 * at0 l 0 ≤ at0 l (l.length - 1) * at0 l (l.length - 1)
    · rw [if_pos h, if_pos ((sq_scale hc).mpr h)]
    · rw [if_neg h, if_neg fun z => h ((sq_scale hc).mp z)]
theorem nx_up {k : Rat} {l : List Rat} (hl : at0 l 0 = 1) (hn : 0 < l.length) : nx (up k l) = smul (1 - k * k) l := ext0 (by rw [nx_len, up_len, smul_len]; omega) fun i hi => by
  rw [nx_len, up_len, Nat.add_sub_cancel] at hi
  rw [at0_nx (by rw [up_len]; omega), up_len, Nat.add_sub_cancel, up_head, up_last, hl, at0_up (by omega), at0_up (by omega), at0_smul, show l.length - (l.length - i) = i by omega]
  grind
theorem fb_up {n : Nat} {k : Rat} {l : List Rat} (hl : at0 l 0 = 1) (hn : l.length = n + 1) (hk : k * k < 1) : fb (n + 1) (up k l) = (fb n l).map (k :: ·) := by
  rw [fb_succ, up_len, Nat.add_sub_cancel, up_head, up_last, hl, nx_up hl (by omega), fb_smul n l (by grind), if_neg (by grind)]
  have : k * 1 / 1 = k := by grind
  rw [this]
theorem fb_upR : ∀ ks : List Rat, (∀ k ∈ ks, k * k < 1) → fb ks.length (upR ks) = some ks
  | [], _ => rfl
  | k :: ks, h => by
    show fb (ks.length + 1) (up k (upR ks)) = _
    rw [fb_up (upR_head ks) (upR_len ks) (h k List.mem_cons_self), fb_upR ks fun j hj => h j (List.mem_cons_of_mem _ hj)]
    rfl
/-- the next row, led -/
def dn (l : List Rat) : List Rat := smul (1 / (1 - at0 l (l.length - 1) * at0 l (l.length - 1))) (nx l)
theorem dn_len (l : List Rat) : (dn l).length = l.length - 1 := by
  unfold dn
  rw [smul_len, nx_len]
theorem dn_head {l : List Rat} (hl : at0 l 0 = 1) (hn : 2 ≤ l.length) (hk : at0 l (l.length - 1) * at0 l (l.length - 1) < 1) : at0 (dn l) 0 = 1 := by
  unfold dn
  rw [at0_smul, at0_nx (by omega), hl, Nat.sub_zero]
  grind
theorem up_dn {l : List Rat} (hl : at0 l 0 = 1) (hn : 2 ≤ l.length) (hk : at0 l (l.length - 1) * at0 l (l.length - 1) < 1) : up (at0 l (l.length - 1)) (dn l) = l := ext0 (by rw [up_len, dn_len]; omega) fun i hi => by
  rw [up_len, dn_len] at hi
  rw [at0_up (by rw [dn_len]; omega), dn_len]
  by_cases h0 : i = 0
  · subst h0
    rw [dn_head hl hn hk, at0_out (l := dn l) (by rw [dn_len]; omega), hl]
    grind
  · by_cases h1 : i = l.length - 1
    · rw [h1, at0_out (l := dn l) (by rw [dn_len]; omega), Nat.sub_self, dn_head hl hn hk]
      grind
    · unfold dn
      rw [at0_smul, at0_smul, at0_nx (by omega), at0_nx (by omega), hl, show l.length - 1 - (l.length - 1 - i) = i by omega]
      have hk' : 1 - at0 l (l.length - 1) * at0 l (l.length - 1) ≠ 0 := by grind
      grind
theorem fb_dn {n : Nat} {l : List Rat} (hl : at0 l 0 = 1) (hn : l.length = n + 2) : fb (n + 1) l = if 1 ≤ at0 l (l.length - 1) * at0 l (l.length - 1) then none else (fb n (dn l)).map (at0 l (l.length - 1) :: ·) := by
  rw [fb_succ, hl]
  have e : at0 l (l.length - 1) / 1 = at0 l (l.length - 1) := by grind
  have e2 : (1 : Rat) * 1 = 1 := by grind
  rw [e, e2]
  by_cases h : 1 ≤ at0 l (l.length - 1) * at0 l (l.length - 1)
  · rw [if_pos h, if_pos h]
  · rw [if_neg h, if_neg h]
    have h2 : (1 : Rat) / (1 - at0 l (l.length - 1) * at0 l (l.length - 1)) ≠ 0 := by grind
    unfold dn
    rw [fb_smul n _ h2]
theorem fb_len : ∀ (n : Nat) (l bs : List Rat), fb n l = some bs → bs.length = n
  | 0, _, bs, h => by
    unfold fb at h
    cases h
    rfl
  | n + 1, l, bs, h => by
    rw [fb_succ] at h
    split at h
    · cases h
    · obtain ⟨cs, h1, rfl⟩ := Option.map_eq_some_iff.mp h
      rw [List.length_cons, fb_len n _ _ h1]
/-- bits of the rows on the way down -/
def bitsD : Nat → Nat → Nat
  | 0, b => b
  | i + 1, b => bitsD i (5 * b + 3)
theorem qs_at0 {b : Nat} {l : List Rat} (h : Qs b l) (hb : 0 < b) (i : Nat) : Qz b (at0 l i) := by
  by_cases hi : i < l.length
  · exact h _ (at0_mem hi)
  · rw [at0_out (by omega)]
    exact qz0 hb
theorem qz_inv {b : Nat} {q : Rat} (h : Qz b q) (h0 : q ≠ 0) : Qz b (1 / q) := by
  have e : (1 : Rat) / q = Rat.divInt q.den q.num := by
    have hn : q.num ≠ 0 := fun z => h0 (Rat.num_eq_zero.mp z)
    have e1 : q = (q.num : Rat) / ((q.den : Int) : Rat) := by
      rw [← Rat.divInt_eq_div]
      exact (fr_self q).symm
    have h1 : (q.num : Rat) ≠ 0 := by exact_mod_cast hn
    have h2 : ((q.den : Int) : Rat) ≠ 0 := by have := q.den_nz; exact_mod_cast this
    rw [Rat.divInt_eq_div]
    have key : ∀ q n d : Rat, n ≠ 0 → d ≠ 0 → q = n / d → 1 / q = d / n := by
      intro q n d a b c
      subst c
      grind
    exact key _ _ _ h1 h2 e1
  rw [e]
  exact qz_div h.dd h.n fun z => h0 (Rat.num_eq_zero.mp z)
theorem qs_dn {b : Nat} {l : List Rat} (h : Qs b l) (hb : 0 < b) (hl : at0 l 0 = 1) (hk : ¬ 1 ≤ at0 l (l.length - 1) * at0 l (l.length - 1)) : Qs (5 * b + 3) (dn l) := fun c hc => by
  have q1 := qs_at0 h hb (l.length - 1)
  have q2 : Qz (2 * b + 2) (1 / (1 - at0 l (l.length - 1) * at0 l (l.length - 1))) := (qz_inv (Qz.sub (qz1 (Nat.one_pos)) (Qz.mul q1 q1)) (by grind)).mono (by omega)
  unfold dn smul at hc
  obtain ⟨d, hd, rfl⟩ := List.mem_map.mp hc
  unfold nx at hd
  obtain ⟨i, _, rfl⟩ := List.mem_map.mp hd
  rw [hl]
  have e : (1 : Rat) * at0 l i = at0 l i := by grind
  rw [e]
  exact (Qz.mul q2 (Qz.sub (qs_at0 h hb i) (Qz.mul q1 (qs_at0 h hb _)))).mono (by omega)
/-- rows of the last bends: those on the way down -/
theorem fb_way : ∀ (n : Nat) (l bs : List Rat) (b : Nat), 0 < b → at0 l 0 = 1 → l.length = n + 1 → Qs b l → fb n l = some bs → upR bs = l ∧ (∀ k ∈ bs, k * k < 1) ∧ (∀ i, i ≤ n → Qs (bitsD i b) (upR (bs.drop i))) ∧ ∀ i, i < n → Qz (bitsD i b) (at0 bs i)
  | 0, l, bs, b, hb, hl, hn, hq, h => by
    unfold fb at h
    cases h
    have e : l = [1] := by
      match l, hn, hl with
      | [c], _, hl =>
        have : c = 1 := hl
        rw [this]
    subst e
    refine ⟨rfl, (fun k hk => by cases hk), fun i hi => ?_, fun i hi => absurd hi (Nat.not_lt_zero _)⟩
    have : i = 0 := by omega
    subst this
    exact hq
  | n + 1, l, bs, b, hb, hl, hn, hq, h => by
    rw [fb_dn hl hn] at h
    split at h
    · cases h
    · rename_i hk
      obtain ⟨cs, h1, rfl⟩ := Option.map_eq_some_iff.mp h
      have hk' : at0 l (l.length - 1) * at0 l (l.length - 1) < 1 := by grind
      obtain ⟨e1, e2, e3, e4⟩ := fb_way n (dn l) cs (5 * b + 3) (by omega) (dn_head hl (by omega) hk') (by rw [dn_len]; omega) (qs_dn hq hb hl hk) h1
      refine ⟨?_, fun k hk2 => ?_, fun i hi => ?_, fun i hi => ?_⟩
      · show up _ (upR cs) = l
        rw [e1, up_dn hl (by omega) hk']
      · rcases List.mem_cons.mp hk2 with rfl | h'
        · exact hk'
        · exact e2 k h'
      · cases i with
        | zero =>
          show Qs b (up _ (upR cs))
          rw [e1, up_dn hl (by omega) hk']
          exact hq
        | succ i => exact e3 i (by omega)
      · cases i with
        | zero =>
          show Qz b (at0 l (l.length - 1))
          exact qs_at0 hq hb _
        | succ i => exact e4 i (by omega)
theorem tr_upR {k : Rat} {ks : List Rat} (hk : k ≠ 0) : Tr (upR (k :: ks)) := fun hn => by
  rw [List.getLast_eq_getElem]
  have e : (upR (k :: ks)).length - 1 = (upR ks).length := by
    show (up k (upR ks)).length - 1 = _
    rw [up_len, Nat.add_sub_cancel]
  have h : (upR (k :: ks))[(upR (k :: ks)).length - 1]? = some (at0 (upR (k :: ks)) ((upR (k :: ks)).length - 1)) := at0_get (by have := List.length_pos_iff.mpr hn; omega)
  rw [List.getElem?_eq_getElem (by have := List.length_pos_iff.mpr hn; omega)] at h
  have h2 := Option.some.inj h
  rw [h2, e]
  show at0 (up k (upR ks)) (upR ks).length ≠ 0
  rw [up_last, upR_head]
  grind
/-! rows over one divisor -/
def Cd (a b : Nat) (l : List Rat) : Prop := ∃ D : Nat, 0 < D ∧ D ≤ 2 ^ a ∧ ∀ c ∈ l, ∃ n : Int, c * (D : Rat) = (n : Rat) ∧ n.natAbs ≤ 2 ^ b
theorem cd_at {a b : Nat} {l : List Rat} {D : Nat} (h : ∀ c ∈ l, ∃ n : Int, c * (D : Rat) = (n : Rat) ∧ n.natAbs ≤ 2 ^ b) (i : Nat) : ∃ n : Int, at0 l i * (D : Rat) = (n : Rat) ∧ n.natAbs ≤ 2 ^ b := by
  by_cases hi : i < l.length
  · exact h _ (at0_mem hi)
  · rw [at0_out (by omega)]
    exact ⟨0, by push_cast; grind, Nat.zero_le _⟩
theorem cd_up {a b : Nat} {k : Rat} {l : List Rat} (h : Cd a b l) (hk : k.den ≤ 8) (hk2 : k.num.natAbs < k.den) : Cd (a + 3) (b + 4) (up k l) := by
  obtain ⟨D, h0, h1, h2⟩ := h
  have hd := k.den_pos
  refine ⟨D * k.den, Nat.mul_pos h0 hd, ?_, fun c hc => ?_⟩
  · rw [Nat.pow_add]
    exact Nat.mul_le_mul h1 hk
  · unfold up at hc
    obtain ⟨i, _, rfl⟩ := List.mem_map.mp hc
    obtain ⟨n1, e1, g1⟩ := cd_at (a := a) h2 i
    obtain ⟨n2, e2, g2⟩ := cd_at (a := a) h2 (l.length - i)
    refine ⟨n1 * k.den + k.num * n2, ?_, ?_⟩
    · have ek : k * (k.den : Rat) = (k.num : Rat) := by
        have : k = (k.num : Rat) / ((k.den : Int) : Rat) := by
          rw [← Rat.divInt_eq_div]
          exact (fr_self k).symm
        have h3 : ((k.den : Int) : Rat) ≠ 0 := by have := k.den_nz; exact_mod_cast this
        have key : ∀ k n d : Rat, d ≠ 0 → k = n / d → k * d = n := by
          intro k n d a b
          grind
        have := key _ _ _ h3 this
        push_cast at this
        exact this
      push_cast
      grind
    · have p : (n1 * (k.den : Int)).natAbs ≤ 2 ^ b * 8 := by
        rw [Int.natAbs_mul]
        exact Nat.mul_le_mul g1 (by omega)
      have p2 : (k.num * n2).natAbs ≤ 8 * 2 ^ b := by
        rw [Int.natAbs_mul]
        exact Nat.mul_le_mul (by omega) g2
      rw [Nat.pow_add]
      omega
theorem cd_upR : ∀ ks : List Rat, (∀ k ∈ ks, k.den ≤ 8 ∧ k.num.natAbs < k.den) → Cd (3 * ks.length) (4 * ks.length) (upR ks)
  | [], _ => ⟨1, by decide, by decide, fun c hc => ⟨1, by rw [List.mem_singleton.mp hc]; push_cast; grind, by decide⟩⟩
  | k :: ks, h => by
    have := cd_up (cd_upR ks fun j hj => h j (List.mem_cons_of_mem _ hj)) (h k List.mem_cons_self).1 (h k List.mem_cons_self).2
    show Cd _ _ (up k (upR ks))
    rw [List.length_cons, Nat.mul_add, Nat.mul_add]
    exact this
theorem cd_qs {a b c : Nat} {l : List Rat} (h : Cd a b l) (ha : a < c) (hb : b < c) : Qs c l := fun q hq => by
  obtain ⟨D, h0, h1, h2⟩ := h
  obtain ⟨n, e, g⟩ := h2 q hq
  have hD : ((D : Int) : Rat) ≠ 0 := by exact_mod_cast (show (D : Int) ≠ 0 by omega)
  have e2 : q = Rat.divInt n D := by
    rw [Rat.divInt_eq_div]
    have key : ∀ q d n : Rat, d ≠ 0 → q * d = n → q = n / d := by
      intro q d n a b
      grind
    exact key _ _ _ hD (by push_cast; exact e)
  rw [e2]
  have p1 : 2 ^ b < 2 ^ c := Nat.pow_lt_pow_right (by decide) hb
  have p2 : 2 ^ a < 2 ^ c := Nat.pow_lt_pow_right (by decide) ha
  exact qz_div (by omega) (show ((D : Nat) : Int).natAbs < 2 ^ c by rw [Int.natAbs_natCast]; omega) (by omega)
theorem small_sq {k : Rat} (h : k.num.natAbs < k.den) : k * k < 1 := by
  have hd := k.den_pos
  have ek : k = (k.num : Rat) / ((k.den : Int) : Rat) := by
    rw [← Rat.divInt_eq_div]
    exact (fr_self k).symm
  have hdp : (0 : Rat) < ((k.den : Int) : Rat) := by exact_mod_cast (show (0 : Int) < (k.den : Int) by omega)
  have hi : k.num * k.num < (k.den : Int) * (k.den : Int) := by
    have e1 : k.num * k.num = ((k.num.natAbs * k.num.natAbs : Nat) : Int) := (Int.natAbs_mul_self).symm
    rw [e1]
    have := Nat.mul_lt_mul'' h h
    exact_mod_cast this
  have hr : (k.num : Rat) * (k.num : Rat) < ((k.den : Int) : Rat) * ((k.den : Int) : Rat) := by exact_mod_cast hi
  have key : ∀ k n d : Rat, 0 < d → k = n / d → n * n < d * d → k * k < 1 := by
    intro k n d h1 h2 h3
    have e : k * d = n := by grind
    refine Classical.byContradiction fun z => ?_
    have z1 : 0 ≤ k * k - 1 := by grind
    have z2 := Rat.mul_nonneg z1 (Rat.le_of_lt (Rat.mul_pos h1 h1))
    have z3 : (k * d) * (k * d) < d * d := by rw [e]; exact h3
    grind
  exact key _ _ _ hdp ek hr
theorem small_of_sq {k : Rat} (h : k * k < 1) : k.num.natAbs < k.den := by
  refine Classical.byContradiction fun z => ?_
  have hd := k.den_pos
  have ek : k = (k.num : Rat) / ((k.den : Int) : Rat) := by
    rw [← Rat.divInt_eq_div]
    exact (fr_self k).symm
  have hdp : (0 : Rat) < ((k.den : Int) : Rat) := by exact_mod_cast (show (0 : Int) < (k.den : Int) by omega)
  have hi : (k.den : Int) * (k.den : Int) ≤ k.num * k.num := by
    have e1 : k.num * k.num = ((k.num.natAbs * k.num.natAbs : Nat) : Int) := (Int.natAbs_mul_self).symm
    rw [e1]
    have := Nat.mul_le_mul (Nat.le_of_not_lt z) (Nat.le_of_not_lt z)
    exact_mod_cast this
  have hr : ((k.den : Int) : Rat) * ((k.den : Int) : Rat) ≤ (k.num : Rat) * (k.num : Rat) := by exact_mod_cast hi
  have key : ∀ k n d : Rat, 0 < d → k = n / d → d * d ≤ n * n → ¬ k * k < 1 := by
    intro k n d h1 h2 h3 h4
    have e : k * d = n := by grind
    have z1 : 0 < 1 - k * k := by grind
    have z2 := Rat.mul_pos z1 (Rat.mul_pos h1 h1)
    have z3 : d * d ≤ (k * d) * (k * d) := by rw [e]; exact h3
    grind
  exact key _ _ _ hdp ek hr h
end Vx
namespace Vx
open PySem PySem.Spec PyProof.Rows L2
theorem fm_congr {α β : Type} {f g : α → Option β} : ∀ {l : List α}, (∀ a ∈ l, f a = g a) → l.filterMap f = l.filterMap g
  | [], _ => rfl
  | a :: l, h => by
    rw [List.filterMap_cons, List.filterMap_cons, h a List.mem_cons_self, fm_congr fun b hb => h b (List.mem_cons_of_mem _ hb)]
section
variable {prog : Program} {w : World} {A : Around} {E : Value → Shared → Prop} {s : Shared}
theorem sliceApplied_rev {sl : Addr} {vs : Value} {n : Nat} {Q : Int × Int × Nat → Shared → Prop} (hs : s.heap.IsSliceOf sl .none .none vs) (ps : IsPart vs (some (-1)))
    (h : Q ((n : Int) - 1, -1, n) s) : wpAny (model prog w) A (Builtin.Slice.sliceApplied (.ref sl) (pure (n : Int))) Q E s := by
  obtain ⟨os, hos, hcs, hds⟩ := id hs
  unfold Builtin.Slice.sliceApplied Builtin.Slice.sliceFields
  refine wpAny_bind (wpAny_bind (wpAny_field hos hds (x := .none) rfl (wpAny_bind (wpAny_field hos hds (x := .none) rfl (wpAny_bind (wpAny_field hos hds (x := vs) rfl (wpAny_pure ?_)))))))
  refine wpAny_bind (HT.slicePart_ ps ?_)
  show wpAny _ _ (if ((-1 : Int) == 0) = true then _ else _) _ _ s
  rw [if_neg (by decide)]
  refine wpAny_bind (slicePart_none (wpAny_bind (slicePart_none (wpAny_bind (wpAny_pure ?_)))))
  show wpAny _ _ (match Builtin.Slice.sliceAdjust none none (-1) (n : Int) with | (lo, hi) => pure (lo, (-1 : Int), Builtin.Slice.slicePlaces lo hi (-1))) _ _ s
  have e1 : Builtin.Slice.sliceAdjust none none (-1) (n : Int) = ((n : Int) - 1, -1) := by
    unfold Builtin.Slice.sliceAdjust
    simp
  rw [e1]
  show wpAny _ _ (pure ((n : Int) - 1, (-1 : Int), Builtin.Slice.slicePlaces ((n : Int) - 1) (-1) (-1))) _ _ s
  have e2 : Builtin.Slice.slicePlaces ((n : Int) - 1) (-1) (-1) = n := by
    unfold Builtin.Slice.slicePlaces
    simp only [show ¬ ((-1 : Int) > 0) by decide, if_false]
    split
    · rw [show (- -1 : Int) = 1 by decide, Int.ediv_one]
      omega
    · omega
  rw [e2]
  exact wpAny_pure h
theorem pick_rev (xs : Array Value) : ((List.range xs.size).filterMap fun (m : Nat) => xs[(((xs.size : Nat) : Int) - 1 + (m : Int) * -1).toNat]?).toArray = xs.toList.reverse.toArray := by
  have e : ∀ m ∈ List.range xs.size, xs[(((xs.size : Nat) : Int) - 1 + (m : Int) * -1).toNat]? = xs[xs.size - 1 - m]? := fun m hm => by
    have := List.mem_range.mp hm
    have : (((xs.size : Nat) : Int) - 1 + (m : Int) * -1).toNat = xs.size - 1 - m := by omega
    rw [this]
  have e2 : (List.range xs.size).filterMap (fun (m : Nat) => xs[(((xs.size : Nat) : Int) - 1 + (m : Int) * -1).toNat]?) = (List.range xs.size).filterMap (fun m => xs[xs.size - 1 - m]?) :=
    fm_congr e
  rw [e2]
  have e3 : (List.range xs.size).filterMap (fun m => xs[xs.size - 1 - m]?) = ((List.range xs.size).map fun m => xs.size - 1 - m).filterMap (xs[·]?) := by
    rw [List.filterMap_map]
    rfl
  rw [e3, PySem.W.krv_range, List.filterMap_reverse, PySem.W.krv_all]
theorem getItem_tuple_rev {t sl : Addr} {items : Array Value} {vs : Value} {Q : Value → Shared → Prop} (ht : IsTup s.heap t items) (hs : s.heap.IsSliceOf sl .none .none vs) (ps : IsPart vs (some (-1)))
    (h : Q (.ref s.heap.objs.size) { s with heap := s.heap.push { cls := .type "tuple", data := .seq items.toList.reverse.toArray } })
    (hsz : items.size ≤ sizeLine) : wpAny (model prog w) A (getItem (.ref t) (.ref sl)) Q E s := by
  have htake : sizeOk (.seq items.toList.reverse.toArray) := by
    show items.toList.reverse.toArray.size ≤ sizeLine
    rw [List.size_toArray, List.length_reverse, Array.length_toList]
    exact hsz
  obtain ⟨os, hos, hcs, hds⟩ := id hs
  have hTs : s.TypeIs (.ref sl) "slice" := ⟨os, hos, hcs⟩
  unfold getItem
  try with_reducible refine wpAny_holding ?_
  first | refine wpAny_bind (wpAny_pure ?_) | skip
  refine wpAny_bind (wpAny_sequenceKey ht.typeIs (by decide) ?_)
  refine wpAny_bind (wpAny_callSpecial?_slot (name := Str.ofString "__getitem__") ht.typeIs PyProof.Rows.slot_tuple_getitem
    (wpAny_call_entry PyProof.Rows.slot_tuple_getitem ht.typeIs entry_tuple_getitem ?_ (args_tuple_getitem _ _)))
  show wpAny _ _ (Builtin.Tuple.tupleItemsOf (.ref t) >>= _) _ _ s
  refine wpAny_bind (tupleItemsOf_ ht ?_)
  refine wpAny_bind (wpAny_typeOf hTs ?_)
  rw [if_pos (by decide)]
  refine wpAny_bind (sliceApplied_rev hs ps ?_)
  have hno : ¬ ((((items.size : Nat) : Int) - 1 == 0 && (-1 : Int) == 1 && items.size == items.size) = true) := by simp
  show wpAny _ _ (if (((items.size : Nat) : Int) - 1 == 0 && (-1 : Int) == 1 && items.size == items.size) = true then _ else _) _ _ s
  rw [if_neg hno, pick_rev]
  first
    | exact wpAny_bind (m := Builtin.Tuple.tupleExact _) (wpAny_newObj_type (wpAny_pure ⟨_, rfl, wpAny_pure h⟩) htake)
    | exact wpAny_bind (m := Builtin.Tuple.tupleExact _) (wpAny_newObj_type (wpAny_bind (wpAny_pure (wpAny_pure ⟨_, rfl, wpAny_pure h⟩))) htake)
    | exact wpAny_bind (wpAny_bind (m := Builtin.Tuple.tupleExact _) (wpAny_newObj_type (wpAny_pure (wpAny_pure ⟨_, rfl, wpAny_pure h⟩)) htake))
    | exact wpAny_bind (wpAny_bind (m := Builtin.Tuple.tupleExact _) (wpAny_newObj_type (wpAny_pure ⟨_, rfl, wpAny_pure h⟩) htake))
theorem krv_pick0 (items : Array Value) (h : 0 < items.size) : slicePick items none (some 0) (some (-1)) = (items.toList.drop 1).reverse.toArray := by
  have hb : sliceBounds none (some 0) (some (-1)) items.size = ((items.size : Int) - 1, 0, -1) := by
    simp only [sliceBounds, Option.getD_some, show ¬ ((-1 : Int) > 0) by decide, if_false, show ¬ ((0 : Int) < 0) by decide]
    refine Prod.ext rfl (Prod.ext ?_ rfl)
    show max (-1 : Int) (min 0 ((items.size : Int) - 1)) = 0
    omega
  unfold slicePick
  rw [hb]
  show ((sliceRange ((items.size : Int) - 1) 0 (-1)).filterMap (items[·]?)).toArray = _
  have hr : sliceRange ((items.size : Int) - 1) 0 (-1) = (List.range (items.size - 1)).map fun k => items.size - 1 - k := by
    unfold sliceRange
    have h1 : ¬ ((-1 : Int) > 0) := by decide
    by_cases h2 : (items.size : Int) - 1 > 0
    · have e : ((items.size : Int) - 1 - 0 - -1 - 1) / (- -1) = ((items.size - 1 : Nat) : Int) := by
        rw [show (- -1 : Int) = 1 by decide, Int.ediv_one]
        omega
      simp only [h1, if_false, h2, if_true, e, Int.toNat_natCast]
      apply List.map_congr_left
      intro k hk
      have := List.mem_range.mp hk
      omega
    · have e : items.size - 1 = 0 := by omega
      rw [e]
      simp only [h1, if_false, h2, if_false]
      rfl
  rw [hr]
  have e4 : ((List.range (items.size - 1)).map fun k => items.size - 1 - k) = ((List.range (items.size - 1)).map fun k => k + 1).reverse := by
    refine List.ext_getElem? fun i => ?_
    by_cases hi : i < items.size - 1
    · rw [List.getElem?_map, List.getElem?_range hi, List.getElem?_reverse (by simpa using hi)]
      simp only [List.length_map, List.length_range, List.getElem?_map, Option.map_some]
      rw [List.getElem?_range (by omega)]
      simp only [Option.map_some]
      exact congrArg some (by omega)
    · rw [List.getElem?_eq_none (by simp; omega), List.getElem?_eq_none (by simp; omega)]
  rw [e4, List.filterMap_reverse]
  have e5 : ((List.range (items.size - 1)).map fun k => k + 1).filterMap (items[·]?) = items.toList.drop 1 := by
    have := pick_run items 1 (items.size - 1)
    rw [show ((1 + ·) : Nat → Nat) = fun k => k + 1 from funext fun k => Nat.add_comm 1 k] at this
    rw [this, List.take_of_length_le]
    rw [List.length_drop, Array.length_toList]
    omega
  rw [e5]
end
/-! ### as terms -/
def tRevT (K : PySem.W.Frag) (te : TE) : TE := fun σ H Q => te σ H fun x H1 => ∃ a xs, x = .ref a ∧ SqT K H1 a xs ∧ ∀ p, H1 p = none → Q (.ref p) (upd H1 p (.tup xs.reverse))
theorem pe_revT {X : Cx} {e : Expr} {te : TE} {k : Nat} {p1 p2 p3 pos : Pos} (he : PE X e te) : PE X (.Subscript e (.Slice none none (some (.UnaryOp .USub (.Constant (.int 1) k p1) p2)) p3) pos) (tRevT X.K te) := by
  refine ⟨fun pins s σ H Q I h => ?_⟩
  refine Subscript_ (thn (he.run pins s σ H _ I h) fun v s1 ⟨x, H1, I1, r1, q1⟩ => ?_)
  obtain ⟨a, xs, ex, hx, q⟩ := q1
  subst ex
  cases r1
  have hst : PO X (some (.UnaryOp .USub (.Constant (.int 1) k p1) p2)) (tPart (tUn (rU fun i => .int (-i)) (tC (.int 1)))) := po_some (pe_un un_neg pe_int)
  refine wpAny_Slice (thn (po_none.run pins s1 σ H1 (fun o H2 => o = none ∧ H2 = H1) I1 ⟨rfl, rfl⟩) fun vl s2 ⟨l, H2, I2, pl, el, e2⟩ => ?_)
  subst el e2
  refine thn (po_none.run pins s2 σ H2 (fun o H3 => o = none ∧ H3 = H2) I2 ⟨rfl, rfl⟩) fun vu s3 ⟨u, H3, I3, pu, eu, e3⟩ => ?_
  subst eu e3
  refine thn (hst.run pins s3 σ H3 (fun o H4 => o = some (-1) ∧ H4 = H3) I3 ⟨1, rfl, -1, rfl, rfl, rfl⟩) fun vs s4 ⟨o, H4, I4, ps, eo, e4⟩ => ?_
  subst eo e4
  have I5 : Inv X pins σ H4 { s4 with heap := s4.heap.push { cls := .type "slice", data := .fields #[vl, vu, vs] } } := I4.kept (t' := s4.toks) fun b ob q => Heap.get?_push_of_some _ q
  obtain ⟨its, r, ht, hz⟩ := I5.tuple hx
  have hlen := r.length
  cases pl
  cases pu
  show wpAny (model X.prog X.w) X.A (subscriptTail e (.Slice none none (some (.UnaryOp .USub (.Constant (.int 1) k p1) p2)) p3) (.ref a) (.ref s4.heap.objs.size)) (EP X pins σ Q) X.xe { s4 with heap := s4.heap.push { cls := .type "slice", data := .fields #[.none, .none, vs] } }
  refine tail_any (ops := [.ref a, .ref s4.heap.objs.size]) ht.typeIs (PyProof.Rows.slot_tuple_getitem.lookup) ?_ (by with_unfolding_all rfl)
  refine getItem_tuple_rev ht (Heap.IsSliceOf.new _ .none .none vs) ps ?_ (by rw [List.size_toArray]; omega)
  refine ⟨.ref _, _, I5.laid (t' := s4.toks) (o := .tup xs.reverse) (fun b ob q => Heap.get?_push_of_some _ q) (Nat.le_refl _) ?_, rfl, q _ (I5.hok.fresh (Nat.le_refl _))⟩
  exact ⟨by rw [List.length_reverse]; exact hz, _, r.reverse, IsTup.new _ _⟩
def tRev0 (K : PySem.W.Frag) (te : TE) : TE := fun σ H Q => te σ H fun x H1 => ∃ a xs, x = .ref a ∧ SqL K H1 a xs ∧ xs ≠ [] ∧ ∀ p, H1 p = none → Q (.ref p) (upd H1 p (.lst (xs.drop 1).reverse))
theorem pe_rev0 {X : Cx} {e : Expr} {te : TE} {k k0 : Nat} {p0 p1 p2 p3 pos : Pos} (he : PE X e te) : PE X (.Subscript e (.Slice none (some (.Constant (.int 0) k0 p0)) (some (.UnaryOp .USub (.Constant (.int 1) k p1) p2)) p3) pos) (tRev0 X.K te) := by
  refine ⟨fun pins s σ H Q I h => ?_⟩
  refine Subscript_ (thn (he.run pins s σ H _ I h) fun v s1 ⟨x, H1, I1, r1, q1⟩ => ?_)
  obtain ⟨a, xs, ex, hx, hne, q⟩ := q1
  subst ex
  cases r1
  have hst : PO X (some (.UnaryOp .USub (.Constant (.int 1) k p1) p2)) (tPart (tUn (rU fun i => .int (-i)) (tC (.int 1)))) := po_some (pe_un un_neg pe_int)
  have h0 : PO X (some (.Constant (.int 0) k0 p0)) (tPart (tC (.int 0))) := po_some pe_int
  refine wpAny_Slice (thn (po_none.run pins s1 σ H1 (fun o H2 => o = none ∧ H2 = H1) I1 ⟨rfl, rfl⟩) fun vl s2 ⟨l, H2, I2, pl, el, e2⟩ => ?_)
  subst el e2
  refine thn (h0.run pins s2 σ H2 (fun o H3 => o = some 0 ∧ H3 = H2) I2 ⟨0, rfl, rfl, rfl⟩) fun vu s3 ⟨u, H3, I3, pu, eu, e3⟩ => ?_
  subst eu e3
  refine thn (hst.run pins s3 σ H3 (fun o H4 => o = some (-1) ∧ H4 = H3) I3 ⟨1, rfl, -1, rfl, rfl, rfl⟩) fun vs s4 ⟨o, H4, I4, ps, eo, e4⟩ => ?_
  subst eo e4
  have I5 : Inv X pins σ H4 { s4 with heap := s4.heap.push { cls := .type "slice", data := .fields #[vl, vu, vs] } } := I4.kept (t' := s4.toks) fun b ob q => Heap.get?_push_of_some _ q
  obtain ⟨its, r, ht, hz⟩ := I5.list hx
  have hlen := r.length
  have hpos : 0 < its.toArray.size := by
    rw [List.size_toArray]
    have := List.length_pos_iff.mpr hne
    omega
  show wpAny (model X.prog X.w) X.A (subscriptTail e (.Slice none (some (.Constant (.int 0) k0 p0)) (some (.UnaryOp .USub (.Constant (.int 1) k p1) p2)) p3) (.ref a) (.ref s4.heap.objs.size)) (EP X pins σ Q) X.xe { s4 with heap := s4.heap.push { cls := .type "slice", data := .fields #[vl, vu, vs] } }
  refine tail_any (ops := [.ref a, .ref s4.heap.objs.size]) ht.isList.typeIs (PySem.slot_list_getitem.lookup) ?_ (by with_unfolding_all rfl)
  refine wpAny_getItem_list_slice ht.isList (Heap.IsSliceOf.new _ vl vu vs) pl pu ps (by decide) ?_ (by rw [List.size_toArray]; omega)
  rw [krv_pick0 _ hpos]
  refine ⟨.ref _, _, I5.laid (t' := s4.toks) (o := .lst (xs.drop 1).reverse) (fun b ob q => Heap.get?_push_of_some _ q) (Nat.le_refl _) ?_, rfl, q _ (I5.hok.fresh (Nat.le_refl _))⟩
  exact ⟨by rw [List.length_reverse, List.length_drop]; omega, _, 0, (r.drop 1).reverse, Heap.get?_push_size _ rfl⟩
end Vx
namespace Vx
open PySem PySem.Spec PyProof.Rows L2
section
variable {X : Cx}
def Kw1 (fd : FuncData) (ps : List Str) (k1 : Str) : Prop := ∀ (s : Shared) (u : Value), BindsTo s fd ⟨[], [(k1, u)]⟩ (ps.zip [u])
structure Dj (P : Program) (w : World) (K : PySem.W.Frag) (mg : Str → Option Value) (base : Heap) (x : Str) (k : Nat) (ps : List Str) (k1 : Str) (sp : Sp) : Prop where
  ex : ∃ f fd, FnOk P w K mg base CX0 k f fd ps sp ∧ mg x = some (.ref f) ∧ PySem.W.keepIn K (.ref f) = true ∧ Binds K fd ps [] ∧ Kw1 fd ps k1
theorem Dj.df {P : Program} {w : World} {K : PySem.W.Frag} {mg : Str → Option Value} {base : Heap} {x : Str} {k : Nat} {ps : List Str} {k1 : Str} {sp : Sp} (D : Dj P w K mg base x k ps k1 sp) : Df P w K mg base x k ps sp := by
  obtain ⟨f, fd, F, a, b, c, _⟩ := D.ex
  exact ⟨f, fd, F, a, b, c⟩
def tKw1 (sp : Sp) (tk : TA) : TE := fun σ H Q => tk σ H fun zs H2 => ∃ a, zs = [a] ∧ sp [a] H2 Q E0
variable {k : Nat} {ps : List Str} {sp : Sp} {x k1 : Str} {p pos p1 : Pos} {e1 : Expr} {tk : TA}
theorem pe_kw1 (D : Dj X.prog X.w X.K X.mg X.base x k ps k1 sp) (hr : Room k X.A) (hg : Gl X x) (hkw : PK X [⟨some k1, e1, p1⟩] tk)
    (hdb : (x == ("__debug__" : Str)) = false := by decide)
    (hall : (backToKw pos (keywordEach [⟨some k1, e1, p1⟩] X.env)).all (·.1.isSome) = true := by rfl)
    (hks : (backToKw pos (keywordEach [⟨some k1, e1, p1⟩] X.env)).filterMap (·.1) = [k1] := by rfl)
    (hpl : ((backTo pos (starEach [] X.env)).any (·.1) || (backToKw pos (keywordEach [⟨some k1, e1, p1⟩] X.env)).any (·.1.isNone)) = false := by rfl) :
    PE X (.Call (.Name x p) [] [⟨some k1, e1, p1⟩] pos) (tKw1 sp tk) := by
  obtain ⟨f, fd, F, hm, hk, _, hb⟩ := D.ex
  refine ⟨fun pins s σ H Q I h => ?_⟩
  refine wpAny_Call_Name_kw (ld_glob I hg hm ?_ hdb)
  refine PySem.W.callWith_KW0 (h₀ := X.base) I.ok.mod.kin hk hall ?_ hpl
  refine thn (hkw.run pos pins s σ H _ I h) fun ws s2 ⟨zs, H2, I2, rz, a, ez, q2⟩ => ⟨I2.kIn, ?_⟩
  subst ez
  rw [hks]
  obtain ⟨u, rfl, ra⟩ := vals1 rz
  refine wpAny_call (codeAny_mono (F.run X.A X.stack s2 H2 ⟨[], [(k1, u)]⟩ [u] [a] Q E0 hr I2.env0 (hb s2 u) (.cons ra .nil) q2) fun r s' hq => ?_)
  cases r with
  | error e => exact pass0 pins σ H2 s2 e s' I2 hq
  | ok fl =>
    cases fl with
    | ret u => exact I2.after hq
    | next => exact False.elim hq
    | brk => exact False.elim hq
    | cont => exact False.elim hq
end
theorem rSlA_none {K : PySem.W.Frag} {H : Hp} {x : V} {qs : List Rat} (h : RwT K H x qs) : qs.length < 1000 → True := fun _ => trivial
/-- one number over another, by whole numbers -/
theorem fr_neg2 {n m : Int} (hm : m < 0) : 0 - n.fdiv ((n.natAbs.gcd m.natAbs : Nat) : Int) = (Rat.divInt n m).num ∧ 0 - m.fdiv ((n.natAbs.gcd m.natAbs : Nat) : Int) = ((Rat.divInt n m).den : Int) := by
  obtain ⟨a, b⟩ := fr_neg (n := n) hm
  rw [← a, ← b]
  have d1 : ((n.natAbs.gcd m.natAbs : Nat) : Int) ∣ n := Int.gcd_dvd_left n m
  have d2 : ((n.natAbs.gcd m.natAbs : Nat) : Int) ∣ m := Int.gcd_dvd_right n m
  have hg0 : 0 < n.natAbs.gcd m.natAbs := Nat.gcd_pos_of_pos_right _ (by omega)
  generalize n.natAbs.gcd m.natAbs = g at *
  obtain ⟨n', rfl⟩ := d1
  obtain ⟨m', rfl⟩ := d2
  have hgi : (g : Int) ≠ 0 := by omega
  have key : ∀ y : Int, 0 - ((g : Int) * y).fdiv (g : Int) = ((g : Int) * y).fdiv (-(g : Int)) := fun y => by
    rw [Int.mul_fdiv_cancel_left _ hgi, show (g : Int) * y = (-(g : Int)) * (-y) by grind, Int.mul_fdiv_cancel_left _ (by omega)]
    omega
  exact ⟨key n', key m'⟩
/-- whole numbers: their greatest divisor -/
theorem toR_at (ns : List Int) (i : Nat) : at0 (toR ns) i = ((ns.getD i 0 : Int) : Rat) := by
  unfold at0 toR
  rw [List.getD_eq_getElem?_getD, List.getD_eq_getElem?_getD, List.getElem?_map]
  cases ns[i]? with
  | none => show (0 : Rat) = ((0 : Int) : Rat); push_cast; rfl
  | some n => rfl
theorem toR_len (ns : List Int) : (toR ns).length = ns.length := List.length_map _
theorem toR_div {ns : List Int} {g : Int} (h0 : g ≠ 0) (hd : ∀ n ∈ ns, g ∣ n) : toR (ns.map fun n => n.fdiv g) = smul (1 / (g : Rat)) (toR ns) := by
  unfold toR smul
  rw [List.map_map, List.map_map]
  refine List.map_congr_left fun n hn => ?_
  obtain ⟨k, rfl⟩ := hd n hn
  show (((g * k).fdiv g : Int) : Rat) = 1 / (g : Rat) * ((g * k : Int) : Rat)
  rw [Int.mul_fdiv_cancel_left _ h0]
  have hr : (g : Rat) ≠ 0 := by exact_mod_cast h0
  push_cast
  grind
end Vx
namespace Vx
open PySem PySem.Spec PyProof.Rows L2
theorem ix_tupK {X : Cx} {K : PySem.W.Frag} (h : X.K = K) : IxR X (rIxT K) := h ▸ ix_tup
theorem ix_listK {X : Cx} {K : PySem.W.Frag} (h : X.K = K) : IxR X (rIxL K) := h ▸ ix_list
end Vx
namespace Vx
open PySem PySem.Spec PyProof.Rows L2
theorem if_tt {A B : Prop} (q : A) : if true = true then A else B := q
theorem ixn_of {n k : Nat} (h : k < n) : ixN n (k : Int) = some k := by
  unfold ixN
  rw [if_pos (by omega), if_pos (by omega)]
  exact congrArg some (by omega)
end Vx
namespace Vx
/-- two of n + 1 things in n places stand in one -/
theorem pigeons : ∀ (n : Nat) (f : Nat → Nat), (∀ i, i ≤ n → f i < n) → ∃ i j, i < j ∧ j ≤ n ∧ f i = f j
  | 0, f, h => absurd (h 0 (Nat.le_refl _)) (Nat.not_lt_zero _)
  | n + 1, f, h => by
    by_cases hc : ∃ i, i ≤ n ∧ f i = f (n + 1)
    · obtain ⟨i, hi, e⟩ := hc
      exact ⟨i, n + 1, by omega, Nat.le_refl _, e⟩
    · have hne : ∀ i, i ≤ n → f i ≠ f (n + 1) := fun i hi e => hc ⟨i, hi, e⟩
      have hl := h (n + 1) (Nat.le_refl _)
      obtain ⟨i, j, hij, hj, e⟩ := pigeons n (fun i => if f i < f (n + 1) then f i else f i - 1) fun i hi => by
        have h1 := h i (by omega)
        have h2 := hne i hi
        show (if f i < f (n + 1) then f i else f i - 1) < n
        split <;> omega
      have h1 := hne i (by omega)
      have h2 := hne j hj
      refine ⟨i, j, hij, by omega, ?_⟩
      have e' : (if f i < f (n + 1) then f i else f i - 1) = (if f j < f (n + 1) then f j else f j - 1) := e
      split at e' <;> split at e' <;> omega
/-! numbers by their digits -/
def dig (B : Nat) : Nat → Nat → List Nat
  | 0, _ => []
  | k + 1, c => c % B :: dig B k (c / B)
def dval (B : Nat) : List Nat → Nat
  | [] => 0
  | d :: l => d + B * dval B l
theorem dig_len (B : Nat) : ∀ (k c : Nat), (dig B k c).length = k
  | 0, _ => rfl
  | k + 1, c => by
    show (dig B k (c / B)).length + 1 = k + 1
    rw [dig_len B k]
theorem dig_lt {B : Nat} (hB : 0 < B) : ∀ (k c : Nat), ∀ d ∈ dig B k c, d < B
  | 0, _, d, h => by cases h
  | k + 1, c, d, h => by
    rcases List.mem_cons.mp h with rfl | h
    · exact Nat.mod_lt _ hB
    · exact dig_lt hB k _ d h
theorem dval_dig {B : Nat} : ∀ (k c : Nat), c < B ^ k → dval B (dig B k c) = c
  | 0, c, h => by
    show 0 = c
    have : c < 1 := h
    omega
  | k + 1, c, h => by
    show c % B + B * dval B (dig B k (c / B)) = c
    have hB : 0 < B := Nat.pos_of_ne_zero fun z => by
      rw [z, Nat.pow_succ, Nat.mul_zero] at h
      exact absurd h (Nat.not_lt_zero _)
    rw [dval_dig k (c / B) (Nat.div_lt_of_lt_mul (by rwa [Nat.pow_succ, Nat.mul_comm] at h))]
    exact Nat.mod_add_div c B
theorem dval_inj {B : Nat} : ∀ {l m : List Nat}, l.length = m.length → (∀ d ∈ l, d < B) → (∀ d ∈ m, d < B) → dval B l = dval B m → l = m
  | [], [], _, _, _, _ => rfl
  | [], _ :: _, h, _, _, _ => by cases h
  | _ :: _, [], h, _, _, _ => by cases h
  | c :: l, d :: m, h, h1, h2, e => by
    have a := h1 c List.mem_cons_self
    have b := h2 d List.mem_cons_self
    have e' : c + B * dval B l = d + B * dval B m := e
    have m1 : (c + B * dval B l) % B = (d + B * dval B m) % B := congrArg (· % B) e'
    have d1 : (c + B * dval B l) / B = (d + B * dval B m) / B := congrArg (· / B) e'
    rw [Nat.add_mul_mod_self_left, Nat.add_mul_mod_self_left, Nat.mod_eq_of_lt a, Nat.mod_eq_of_lt b] at m1
    rw [Nat.add_mul_div_left _ _ (by omega), Nat.add_mul_div_left _ _ (by omega), Nat.div_eq_of_lt a, Nat.div_eq_of_lt b] at d1
    rw [m1, dval_inj (by simpa using h) (fun x hx => h1 x (List.mem_cons_of_mem _ hx)) (fun x hx => h2 x (List.mem_cons_of_mem _ hx)) (by omega)]
theorem dval_lt {B : Nat} : ∀ {l : List Nat}, (∀ d ∈ l, d < B) → dval B l < B ^ l.length
  | [], _ => Nat.one_pos
  | d :: l, h => by
    have a := h d List.mem_cons_self
    have b := dval_lt fun x hx => h x (List.mem_cons_of_mem _ hx)
    show d + B * dval B l < B ^ (l.length + 1)
    rw [show B ^ (l.length + 1) = B * B ^ l.length by rw [Nat.pow_succ, Nat.mul_comm]]
    have : B * (dval B l + 1) ≤ B * B ^ l.length := Nat.mul_le_mul_left _ b
    rw [Nat.mul_add, Nat.mul_one] at this
    omega
/-! equations -/
def dot : List Int → List Int → Int
  | a :: r, x :: l => a * x + dot r l
  | _, _ => 0
def lowest : List Int → Int → Int
  | [], _ => 0
  | a :: r, X => (if a < 0 then a * X else 0) + lowest r X
theorem dot_bounds {A X : Nat} : ∀ {r x : List Int}, r.length = x.length → (∀ a ∈ r, a.natAbs ≤ A) → (∀ a ∈ x, 0 ≤ a ∧ a ≤ (X : Int)) → 0 ≤ dot r x - lowest r X ∧ dot r x - lowest r X ≤ ((r.length * (A * X) : Nat) : Int)
  | [], [], _, _, _ => ⟨Int.le_refl 0, by show (0 : Int) - 0 ≤ ((0 * (A * X) : Nat) : Int); rw [Nat.zero_mul]; decide⟩
  | [], _ :: _, h, _, _ => by cases h
  | _ :: _, [], h, _, _ => by cases h
  | a :: r, x :: l, h, h1, h2 => by
    obtain ⟨i1, i2⟩ := dot_bounds (A := A) (X := X) (r := r) (x := l) (by simpa using h) (fun b hb => h1 b (List.mem_cons_of_mem _ hb)) (fun b hb => h2 b (List.mem_cons_of_mem _ hb))
    obtain ⟨x0, x1⟩ := h2 x List.mem_cons_self
    have ha := h1 a List.mem_cons_self
    show 0 ≤ (a * x + dot r l) - ((if a < 0 then a * (X : Int) else 0) + lowest r X) ∧ (a * x + dot r l) - ((if a < 0 then a * (X : Int) else 0) + lowest r X) ≤ (((r.length + 1) * (A * X) : Nat) : Int)
    have hm : ((((r.length + 1) * (A * X) : Nat)) : Int) = ((r.length * (A * X) : Nat) : Int) + ((A * X : Nat) : Int) := by
      rw [Nat.add_mul, Nat.one_mul]
      push_cast
      rfl
    rw [hm]
    have hAX : ((A * X : Nat) : Int) = (A : Int) * (X : Int) := by push_cast; rfl
    rw [hAX]
    have key : 0 ≤ a * x - (if a < 0 then a * (X : Int) else 0) ∧ a * x - (if a < 0 then a * (X : Int) else 0) ≤ (A : Int) * (X : Int) := by
      split
      · rename_i hneg
        have e : a * x - a * (X : Int) = (-a) * ((X : Int) - x) := by grind
        rw [e]
        refine ⟨Int.mul_nonneg (by omega) (by omega), ?_⟩
        calc (-a) * ((X : Int) - x) ≤ (A : Int) * ((X : Int) - x) := Int.mul_le_mul_of_nonneg_right (by omega) (by omega)
          _ ≤ (A : Int) * (X : Int) := Int.mul_le_mul_of_nonneg_left (by omega) (by omega)
      · rename_i hpos
        refine ⟨by have := Int.mul_nonneg (show 0 ≤ a by omega) x0; omega, ?_⟩
        have e : a * x - 0 = a * x := by omega
        rw [e]
        calc a * x ≤ (A : Int) * x := Int.mul_le_mul_of_nonneg_right (by omega) x0
          _ ≤ (A : Int) * (X : Int) := Int.mul_le_mul_of_nonneg_left x1 (by omega)
    obtain ⟨k1, k2⟩ := key
    omega
def isub (x y : List Int) : List Int := x.zipWith (fun a b => a - b) y
theorem dot_isub : ∀ {r x y : List Int}, r.length = x.length → x.length = y.length → dot r (isub x y) = dot r x - dot r y
  | [], [], [], _, _ => rfl
  | a :: r, x :: l, y :: m, h, k => by
    show a * (x - y) + dot r (isub l m) = (a * x + dot r l) - (a * y + dot r m)
    rw [dot_isub (by simpa using h) (by simpa using k)]
    grind
  | [], [], _ :: _, _, k => by cases k
  | [], _ :: _, _, h, _ => by cases h
  | _ :: _, [], _, h, _ => by cases h
  | _ :: _, _ :: _, [], _, k => by cases k
def nints (l : List Nat) : List Int := l.map fun (n : Nat) => (n : Int)
theorem small_root {rows : List (List Int)} {k A : Nat} (hk : rows.length + 1 = k) (hr : ∀ r ∈ rows, r.length = k) (hA : ∀ r ∈ rows, ∀ a ∈ r, a.natAbs ≤ A) (hA0 : 0 < A) :
    ∃ x : List Int, x.length = k ∧ (∃ a ∈ x, a ≠ 0) ∧ (∀ a ∈ x, a.natAbs ≤ (k * A) ^ rows.length) ∧ ∀ r ∈ rows, dot r x = 0 := by
  generalize hX : (k * A) ^ rows.length = X
  have hkA : 0 < k * A := Nat.mul_pos (by omega) hA0
  have hX0 : 0 < X := hX ▸ Nat.pow_pos hkA
  -- the place of a vector's answers
  let M := k * (A * X) + 1
  let g : Nat → List Int → Nat := fun c r => (dot r (nints (dig (X + 1) k c)) - lowest r X).toNat
  have hdl : ∀ c, (nints (dig (X + 1) k c)).length = k := fun c => by
    unfold nints
    rw [List.length_map, dig_len]
  have hdb : ∀ c, ∀ a ∈ nints (dig (X + 1) k c), 0 ≤ a ∧ a ≤ (X : Int) := fun c a ha => by
    obtain ⟨n, hn, rfl⟩ := List.mem_map.mp ha
    have := dig_lt (Nat.succ_pos X) k c n hn
    omega
  have hg : ∀ c, ∀ r ∈ rows, g c r < M ∧ ((g c r : Nat) : Int) = dot r (nints (dig (X + 1) k c)) - lowest r X := fun c r h => by
    obtain ⟨b1, b2⟩ := dot_bounds (A := A) (X := X) (r := r) (x := nints (dig (X + 1) k c)) (by rw [hr r h, hdl]) (hA r h) (hdb c)
    rw [hr r h] at b2
    show (dot r (nints (dig (X + 1) k c)) - lowest r X).toNat < k * (A * X) + 1 ∧ (((dot r (nints (dig (X + 1) k c)) - lowest r X).toNat : Nat) : Int) = _
    omega
  have hM : M ^ rows.length < (X + 1) ^ k := by
    have h1 : M ≤ (k * A) * (X + 1) := by
      show k * (A * X) + 1 ≤ _
      rw [Nat.mul_add, Nat.mul_one, Nat.mul_assoc]
      omega
    calc M ^ rows.length ≤ ((k * A) * (X + 1)) ^ rows.length := Nat.pow_le_pow_left h1 _
      _ = (k * A) ^ rows.length * (X + 1) ^ rows.length := Nat.mul_pow _ _ _
      _ = X * (X + 1) ^ rows.length := by rw [hX]
      _ < (X + 1) * (X + 1) ^ rows.length := Nat.mul_lt_mul_of_pos_right (Nat.lt_succ_self X) (Nat.pow_pos (Nat.succ_pos X))
      _ = (X + 1) ^ k := by rw [← hk, Nat.pow_succ, Nat.mul_comm]
  obtain ⟨i, j, hij, hj, e⟩ := pigeons (M ^ rows.length) (fun c => dval M (rows.map (g c))) fun c _ => by
    have := dval_lt (B := M) (l := rows.map (g c)) fun d hd => by
      obtain ⟨r, h, rfl⟩ := List.mem_map.mp hd
      exact (hg c r h).1
    rwa [List.length_map] at this
  have hij' : rows.map (g i) = rows.map (g j) := dval_inj (by rw [List.length_map, List.length_map]) (fun d hd => by
      obtain ⟨r, h, rfl⟩ := List.mem_map.mp hd
      exact (hg i r h).1) (fun d hd => by
      obtain ⟨r, h, rfl⟩ := List.mem_map.mp hd
      exact (hg j r h).1) e
  have heq : ∀ r ∈ rows, g i r = g j r := fun r h => List.map_inj_left.mp hij' r h
  refine ⟨isub (nints (dig (X + 1) k j)) (nints (dig (X + 1) k i)), ?_, ?_, ?_, fun r h => ?_⟩
  · unfold isub
    rw [List.length_zipWith, hdl, hdl, Nat.min_self]
  · refine Classical.byContradiction fun hz => ?_
    have all0 : ∀ a ∈ isub (nints (dig (X + 1) k j)) (nints (dig (X + 1) k i)), a = 0 := fun a ha => Classical.byContradiction fun z => hz ⟨a, ha, z⟩
    have key : ∀ (l m : List Nat), l.length = m.length → (∀ a ∈ isub (nints l) (nints m), a = 0) → l = m := by
      intro l
      induction l with
      | nil => intro m h _; exact (List.eq_nil_of_length_eq_zero h.symm).symm
      | cons c l ih =>
        intro m h h0
        cases m with
        | nil => cases h
        | cons d m =>
          have h1 : (c : Int) - (d : Int) = 0 := h0 _ List.mem_cons_self
          rw [ih m (by simpa using h) fun a ha => h0 a (List.mem_cons_of_mem _ ha), show c = d by omega]
    have := key _ _ (by rw [dig_len, dig_len]) all0
    have v := congrArg (dval (X + 1)) this
    rw [dval_dig _ _ (by omega), dval_dig _ _ (by omega)] at v
    omega
  · intro a ha
    unfold isub at ha
    obtain ⟨n, hn⟩ := List.mem_iff_getElem?.mp ha
    rw [List.getElem?_zipWith] at hn
    cases h1 : (nints (dig (X + 1) k j))[n]? with
    | none => rw [h1] at hn; cases hn
    | some p =>
      cases h2 : (nints (dig (X + 1) k i))[n]? with
      | none => rw [h1, h2] at hn; cases hn
      | some q =>
        rw [h1, h2] at hn
        have e3 : p - q = a := Option.some.inj hn
        have b1 := hdb j p (List.mem_of_getElem? h1)
        have b2 := hdb i q (List.mem_of_getElem? h2)
        omega
  · rw [dot_isub (by rw [hr r h, hdl]) (by rw [hdl, hdl])]
    have e1 := (hg i r h).2
    have e2 := (hg j r h).2
    have e3 := heq r h
    omega
end Vx
namespace Vx
theorem pmul_len_le : ∀ (a b : List Rat), (pmul a b).length ≤ a.length + b.length - 1
  | [], b => Nat.zero_le _
  | [x], b => by
    show (b.map (x * ·)).length ≤ 1 + b.length - 1
    rw [List.length_map]
    omega
  | x :: y :: a, b => by
    show (ladd (b.map (x * ·)) (0 :: pmul (y :: a) b)).length ≤ _
    have ih := pmul_len_le (y :: a) b
    rw [ladd_length, List.length_map, List.length_cons]
    have e1 : (x :: y :: a).length = a.length + 2 := rfl
    have e2 : (y :: a).length = a.length + 1 := rfl
    omega
theorem at0_ladd : ∀ (a b : List Rat) (i : Nat), at0 (ladd a b) i = at0 a i + at0 b i
  | [], b, i => by
    show at0 b i = at0 [] i + at0 b i
    rw [at0_out (l := []) (Nat.zero_le _)]
    grind
  | c :: a, [], i => by
    show at0 (c :: a) i = at0 (c :: a) i + at0 [] i
    rw [at0_out (l := []) (Nat.zero_le _)]
    grind
  | c :: a, d :: b, 0 => rfl
  | c :: a, d :: b, i + 1 => at0_ladd a b i
/-- x * s = y * s -/
theorem ev_cancel {x y s : List Rat} (ts : Tr s) (ns : s ≠ []) (h : ∀ z, ev x z * ev s z = ev y z * ev s z) : ∀ z, ev x z = ev y z := by
  obtain ⟨d, t1, _, t3⟩ := trim_ex (ladd x (y.map ((-1 : Rat) * ·)))
  have e : d = [] := no_small t1 ts ns tr_nil (List.length_pos_iff.mpr ns) fun z => by
    rw [t3, ev_ladd, ev_scale, ev_nil]
    have := h z
    grind
  intro z
  have := t3 z
  rw [e, ev_nil, ev_ladd, ev_scale] at this
  grind
structure Pr (a b f s u1 v1 u2 v2 : List Rat) (c : Rat) : Prop where
  ef : ∀ z, ev f z = ev u1 z * ev a z + ev v1 z * ev b z
  es : ∀ z, ev s z = ev u2 z * ev a z + ev v2 z * ev b z
  det : ∀ z, ev u1 z * ev v2 z - ev u2 z * ev v1 z = c
  c0 : c ≠ 0
  l1 : v1.length + f.length ≤ a.length + 1
  l2 : v2.length + f.length ≤ a.length + 1
theorem pr_unique {a b f s u1 v1 u2 v2 u v w : List Rat} {c : Rat} (P : Pr a b f s u1 v1 u2 v2 c) (ta : Tr a) (na : a ≠ []) (ts : Tr s) (ns : s ≠ []) (hfs : s.length < f.length) (tw : Tr w)
    (hw : ∀ z, ev w z = ev u z * ev a z + ev v z * ev b z) (lw : w.length ≤ s.length) (lv : v.length + s.length ≤ a.length) :
    ∃ t : Rat, (∀ z, ev w z = t * ev s z) ∧ (∀ z, ev u z = t * ev u2 z) ∧ ∀ z, ev v z = t * ev v2 z := by
  obtain ⟨D, d1, _, d3⟩ := trim_ex (ladd (pmul u v2) ((pmul v u2).map ((-1 : Rat) * ·)))
  obtain ⟨R, r1, r2, r3⟩ := trim_ex (ladd (pmul v2 w) ((pmul v s).map ((-1 : Rat) * ·)))
  have hD : ∀ z, ev D z = ev u z * ev v2 z - ev v z * ev u2 z := fun z => by
    rw [d3, ev_ladd, ev_scale, ev_pmul, ev_pmul]
    grind
  have hR : ∀ z, ev R z = ev v2 z * ev w z - ev v z * ev s z := fun z => by
    rw [r3, ev_ladd, ev_scale, ev_pmul, ev_pmul]
    grind
  have lR : R.length < a.length := by
    rw [ladd_length, List.length_map] at r2
    have p1 := pmul_len_le v2 w
    have p2 := pmul_len_le v s
    have p3 := P.l2
    have p4 := List.length_pos_iff.mpr na
    have p5 := List.length_pos_iff.mpr ns
    omega
  have e : D = [] := no_small d1 ta na r1 lR fun z => by
    rw [hD, hR, hw, P.es]
    grind
  have h1 : ∀ z, ev u z * ev v2 z = ev v z * ev u2 z := fun z => by
    have := hD z
    rw [e, ev_nil] at this
    grind
  have h2 : ∀ z, ev v2 z * ev w z = ev v z * ev s z := fun z => by
    have a1 := h1 z
    rw [hw, P.es]
    grind
  have h3 : ∀ z, ev u2 z * ev w z = ev u z * ev s z := fun z => by
    have a1 := h1 z
    rw [hw, P.es]
    grind
  obtain ⟨q, q1, _, q3⟩ := trim_ex ((ladd (pmul u1 v) ((pmul v1 u).map ((-1 : Rat) * ·))).map ((1 / c) * ·))
  have c0 := P.c0
  have hq : ∀ z, ev w z = ev q z * ev s z := fun z => by
    rw [q3, ev_scale, ev_ladd, ev_scale, ev_pmul, ev_pmul]
    have a1 := h2 z
    have a2 := h3 z
    have a3 := P.det z
    have a4 : c * ev w z = ev u1 z * (ev v z * ev s z) - ev v1 z * (ev u z * ev s z) := by
      rw [← a3, ← a1, ← a2]
      grind
    have a5 : ev w z = 1 / c * (c * ev w z) := by grind
    rw [a5, a4]
    grind
  have lq : q.length ≤ 1 := by
    by_cases hz : q = []
    · rw [hz]
      exact Nat.zero_le _
    · have hw' : w = pmul q s := prod_is q1 ts tw hq hz ns
      have := (pmul_shape q s hz ns).1
      rw [← hw'] at this
      have p5 := List.length_pos_iff.mpr ns
      omega
  obtain ⟨t, ht⟩ : ∃ t : Rat, ∀ z, ev q z = t := by
    match q, lq with
    | [], _ => exact ⟨0, fun z => rfl⟩
    | [t], _ => exact ⟨t, fun z => by show t + z * 0 = t; grind⟩
  have hwt : ∀ z, ev w z = t * ev s z := fun z => by rw [hq, ht]
  refine ⟨t, hwt, fun z => ?_, fun z => ?_⟩
  · have := ev_cancel (x := u) (y := smul t u2) ts ns (fun z => by
      have a1 := h3 z
      rw [hwt] at a1
      rw [show ev (smul t u2) z = t * ev u2 z from ev_scale _ _ _]
      grind) z
    rw [this]
    exact ev_scale _ _ _
  · have := ev_cancel (x := v) (y := smul t v2) ts ns (fun z => by
      have a1 := h2 z
      rw [hwt] at a1
      rw [show ev (smul t v2) z = t * ev v2 z from ev_scale _ _ _]
      grind) z
    rw [this]
    exact ev_scale _ _ _
theorem ev_at0 : ∀ {p q : List Rat}, (∀ i, at0 p i = at0 q i) → ∀ z, ev p z = ev q z
  | [], q, h, z => by
    have : ∀ c ∈ q, c = 0 := fun c hc => by
      obtain ⟨i, hi⟩ := List.mem_iff_getElem?.mp hc
      rw [← at0_some hi, ← h i, at0_out (l := []) (Nat.zero_le _)]
    rw [ev_zeros this]
    rfl
  | c :: p, [], h, z => by
    have : ∀ d ∈ c :: p, d = 0 := fun d hd => by
      obtain ⟨i, hi⟩ := List.mem_iff_getElem?.mp hd
      rw [← at0_some hi, h i, at0_out (l := []) (Nat.zero_le _)]
    rw [ev_zeros this]
    rfl
  | c :: p, d :: q, h, z => by
    show c + z * ev p z = d + z * ev q z
    have h0 : c = d := h 0
    rw [h0, ev_at0 (p := p) (q := q) (fun i => h (i + 1)) z]
/-! products of whole rows, number by number -/
def ga (ns : List Int) (d i : Nat) : Int := if i ≤ d then ns.getD (d - i) 0 else 0
theorem dot_map_congr {f g : Nat → Int} : ∀ (n : Nat) (l : List Int), (∀ i, i < n → f i = g i) → dot ((List.range n).map f) l = dot ((List.range n).map g) l := fun n l h => by
  rw [List.map_congr_left fun i hi => h i (List.mem_range.mp hi)]
theorem dot_zero : ∀ (r l : List Int), (∀ a ∈ r, a = 0) → dot r l = 0
  | [], _, _ => rfl
  | a :: r, [], _ => rfl
  | a :: r, x :: l, h => by
    show a * x + dot r l = 0
    rw [h a List.mem_cons_self, dot_zero r l fun b hb => h b (List.mem_cons_of_mem _ hb)]
    omega
theorem dot_append : ∀ {r l : List Int} (r' l' : List Int), r.length = l.length → dot (r ++ r') (l ++ l') = dot r l + dot r' l'
  | [], [], r', l', _ => by
    show dot r' l' = 0 + dot r' l'
    omega
  | [], _ :: _, _, _, h => by cases h
  | _ :: _, [], _, _, h => by cases h
  | a :: r, x :: l, r', l', h => by
    show a * x + dot (r ++ r') (l ++ l') = (a * x + dot r l) + dot r' l'
    rw [dot_append r' l' (by simpa using h)]
    omega
theorem at0_pmul : ∀ (u b : List Int) (d : Nat), at0 (pmul (toR u) (toR b)) d = ((dot ((List.range u.length).map (ga b d)) u : Int) : Rat)
  | [], b, d => by
    show at0 [] d = _
    rw [at0_out (Nat.zero_le _)]
    show (0 : Rat) = ((0 : Int) : Rat)
    push_cast
    rfl
  | [x], b, d => by
    show at0 (smul (x : Rat) (toR b)) d = ((ga b d 0 * x + 0 : Int) : Rat)
    rw [at0_smul, toR_at]
    have e : ga b d 0 = b.getD d 0 := by
      unfold ga
      rw [if_pos (Nat.zero_le _), Nat.sub_zero]
    rw [e]
    push_cast
    grind
  | x :: y :: u, b, d => by
    show at0 (ladd (smul (x : Rat) (toR b)) (0 :: pmul (toR (y :: u)) (toR b))) d = _
    rw [at0_ladd, at0_smul, toR_at]
    have e : ga b d 0 = b.getD d 0 := by
      unfold ga
      rw [if_pos (Nat.zero_le _), Nat.sub_zero]
    have hs : (List.range (x :: y :: u).length).map (ga b d) = ga b d 0 :: (List.range (y :: u).length).map fun i => ga b d (i + 1) := by
      rw [show (x :: y :: u).length = (y :: u).length + 1 from rfl, List.range_succ_eq_map, List.map_cons, List.map_map]
      rfl
    rw [hs]
    show _ = ((ga b d 0 * x + dot ((List.range (y :: u).length).map fun i => ga b d (i + 1)) (y :: u) : Int) : Rat)
    rw [e]
    cases d with
    | zero =>
      have h0 : dot ((List.range (y :: u).length).map fun i => ga b 0 (i + 1)) (y :: u) = 0 := dot_zero _ _ fun a ha => by
        obtain ⟨i, _, rfl⟩ := List.mem_map.mp ha
        unfold ga
        rw [if_neg (by omega)]
      rw [h0]
      show (x : Rat) * _ + 0 = _
      push_cast
      grind
    | succ d =>
      have h1 : dot ((List.range (y :: u).length).map fun i => ga b (d + 1) (i + 1)) (y :: u) = dot ((List.range (y :: u).length).map (ga b d)) (y :: u) := dot_map_congr _ _ fun i _ => by
        unfold ga
        by_cases h : i ≤ d
        · rw [if_pos h, if_pos (by omega), show d + 1 - (i + 1) = d - i by omega]
        · rw [if_neg h, if_neg (by omega)]
      rw [h1]
      show (x : Rat) * _ + at0 (pmul (toR (y :: u)) (toR b)) d = _
      rw [at0_pmul (y :: u) b d]
      push_cast
      grind
theorem ga_le {ns : List Int} {A : Nat} (h : ∀ n ∈ ns, n.natAbs ≤ A) (d i : Nat) : (ga ns d i).natAbs ≤ A := by
  unfold ga
  split
  · by_cases hi : d - i < ns.length
    · refine h _ (List.mem_of_getElem? (i := d - i) ?_)
      rw [List.getD_eq_getElem?_getD, List.getElem?_eq_getElem hi]
      rfl
    · rw [List.getD_eq_getElem?_getD, List.getElem?_eq_none (by omega)]
      exact Nat.zero_le _
  · exact Nat.zero_le _
theorem dot_le {A X : Nat} : ∀ {r l : List Int}, (∀ a ∈ r, a.natAbs ≤ A) → (∀ x ∈ l, x.natAbs ≤ X) → (dot r l).natAbs ≤ l.length * (A * X)
  | [], _, _, _ => Nat.zero_le _
  | _ :: _, [], _, _ => Nat.zero_le _
  | a :: r, x :: l, h, k => by
    have ih := dot_le (r := r) (l := l) (fun b hb => h b (List.mem_cons_of_mem _ hb)) fun b hb => k b (List.mem_cons_of_mem _ hb)
    have h1 : (a * x).natAbs ≤ A * X := by
      rw [Int.natAbs_mul]
      exact Nat.mul_le_mul (h a List.mem_cons_self) (k x List.mem_cons_self)
    show (a * x + dot r l).natAbs ≤ (l.length + 1) * (A * X)
    rw [Nat.add_mul, Nat.one_mul]
    omega
/-- small whole rows u, v with u * a + v * b of fewer numbers -/
theorem small_combo {an bn : List Int} {A ls : Nat} (ha : ∀ n ∈ an, n.natAbs ≤ A) (hb : ∀ n ∈ bn, n.natAbs ≤ A) (hA : 0 < A) (l1 : ls ≤ an.length) (l2 : ls ≤ bn.length) (l3 : 2 * ls < an.length + bn.length) :
    ∃ (u v w : List Int), u.length + ls = bn.length ∧ v.length + ls = an.length ∧ w.length = ls ∧ (∃ x ∈ u ++ v, x ≠ 0) ∧ (∀ x ∈ u ++ v, x.natAbs ≤ ((an.length + bn.length) * A) ^ (an.length + bn.length)) ∧
      (∀ x ∈ w, x.natAbs ≤ (an.length + bn.length) * (A * ((an.length + bn.length) * A) ^ (an.length + bn.length))) ∧ ∀ z, ev (toR w) z = ev (toR u) z * ev (toR an) z + ev (toR v) z * ev (toR bn) z := by
  obtain ⟨k, hk⟩ : ∃ k, k + 2 * ls = an.length + bn.length := ⟨an.length + bn.length - 2 * ls, by omega⟩
  let row : Nat → List Int := fun d => (List.range (bn.length - ls)).map (ga an d) ++ (List.range (an.length - ls)).map (ga bn d)
  have rlen : ∀ d, (row d).length = k := fun d => by
    show ((List.range (bn.length - ls)).map (ga an d) ++ (List.range (an.length - ls)).map (ga bn d)).length = k
    rw [List.length_append, List.length_map, List.length_map, List.length_range, List.length_range]
    omega
  have rA : ∀ d, ∀ a ∈ row d, a.natAbs ≤ A := fun d a h => by
    rcases List.mem_append.mp h with h | h
    · obtain ⟨i, _, rfl⟩ := List.mem_map.mp h
      exact ga_le ha d i
    · obtain ⟨i, _, rfl⟩ := List.mem_map.mp h
      exact ga_le hb d i
  obtain ⟨x, xl, xn, xb, x0⟩ := small_root (rows := (List.range (k - 1)).map fun j => row (ls + j)) (k := k) (A := A) (by rw [List.length_map, List.length_range]; omega) (fun r h => by
      obtain ⟨j, _, rfl⟩ := List.mem_map.mp h
      exact rlen _) (fun r h => by
      obtain ⟨j, _, rfl⟩ := List.mem_map.mp h
      exact rA _) hA
  rw [List.length_map, List.length_range] at xb
  have hbig : (k * A) ^ (k - 1) ≤ ((an.length + bn.length) * A) ^ (an.length + bn.length) := by
    have h1 : k * A ≤ (an.length + bn.length) * A := Nat.mul_le_mul_right _ (by omega)
    refine Nat.le_trans (Nat.pow_le_pow_left h1 _) (Nat.pow_le_pow_right (Nat.mul_pos (by omega) hA) (by omega))
  have xb' : ∀ a ∈ x, a.natAbs ≤ ((an.length + bn.length) * A) ^ (an.length + bn.length) := fun a h => Nat.le_trans (xb a h) hbig
  generalize ((an.length + bn.length) * A) ^ (an.length + bn.length) = X at xb' 
  have ex : x.take (bn.length - ls) ++ x.drop (bn.length - ls) = x := List.take_append_drop _ _
  have lu : (x.take (bn.length - ls)).length = bn.length - ls := by rw [List.length_take]; omega
  have lv : (x.drop (bn.length - ls)).length = an.length - ls := by rw [List.length_drop]; omega
  have hdot : ∀ d, dot (row d) x = dot ((List.range (bn.length - ls)).map (ga an d)) (x.take (bn.length - ls)) + dot ((List.range (an.length - ls)).map (ga bn d)) (x.drop (bn.length - ls)) := fun d => by
    conv => lhs; rw [← ex]
    exact dot_append _ _ (by rw [List.length_map, List.length_range, lu])
  have hat : ∀ d, at0 (ladd (pmul (toR (x.take (bn.length - ls))) (toR an)) (pmul (toR (x.drop (bn.length - ls))) (toR bn))) d = ((dot (row d) x : Int) : Rat) := fun d => by
    rw [at0_ladd, at0_pmul, at0_pmul, hdot, lu, lv]
    push_cast
    rfl
  refine ⟨x.take (bn.length - ls), x.drop (bn.length - ls), (List.range ls).map fun d => dot (row d) x, by omega, by omega, by rw [List.length_map, List.length_range], by rw [ex]; exact xn, by rw [ex]; exact xb', fun y hy => ?_, fun z => ?_⟩
  · obtain ⟨d, _, rfl⟩ := List.mem_map.mp hy
    refine Nat.le_trans (dot_le (rA d) xb') (Nat.mul_le_mul_right _ ?_)
    omega
  · rw [← ev_pmul, ← ev_pmul, ← ev_ladd]
    generalize hW : ladd (pmul (toR (x.take (bn.length - ls))) (toR an)) (pmul (toR (x.drop (bn.length - ls))) (toR bn)) = W at hat
    have lW : W.length ≤ ls + (k - 1) := by
      rw [← hW, ladd_length]
      have p1 := pmul_len_le (toR (x.take (bn.length - ls))) (toR an)
      have p2 := pmul_len_le (toR (x.drop (bn.length - ls))) (toR bn)
      rw [toR_len, toR_len, lu] at p1
      rw [toR_len, toR_len, lv] at p2
      omega
    have hz : ∀ c ∈ W.drop ls, c = 0 := fun c hc => by
      obtain ⟨j, hj⟩ := List.mem_iff_getElem?.mp hc
      rw [List.getElem?_drop] at hj
      have hlt := (List.getElem?_eq_some_iff.mp hj).1
      have e1 := at0_some hj
      rw [hat, x0 (row (ls + j)) (List.mem_map.mpr ⟨j, List.mem_range.mpr (by omega), rfl⟩)] at e1
      rw [← e1]
      push_cast
      rfl
    rw [← ev_take_drop W ls hz]
    refine ev_at0 (fun i => ?_) z
    rw [toR_at]
    by_cases hi : i < ls
    · have e3 : ((List.range ls).map fun d => dot (row d) x).getD i 0 = dot (row i) x := by
        rw [List.getD_eq_getElem?_getD, List.getElem?_map, List.getElem?_range hi]
        rfl
      rw [e3, ← hat]
      unfold at0
      rw [List.getD_eq_getElem?_getD, List.getD_eq_getElem?_getD, List.getElem?_take_of_lt hi]
    · have e3 : ((List.range ls).map fun d => dot (row d) x).getD i 0 = 0 := by
        rw [List.getD_eq_getElem?_getD, List.getElem?_eq_none (by rw [List.length_map, List.length_range]; omega)]
        rfl
      rw [e3, at0_out (by rw [List.length_take]; omega)]
      push_cast
      rfl
end Vx
namespace Vx
theorem ev_same_len {p q : List Rat} (hl : p.length = q.length) (h : ∀ z, ev p z = ev q z) : p = q := by
  have h0 := ev_nought (l := ladd p (q.map ((-1 : Rat) * ·))) fun z => by
    rw [ev_ladd, ev_scale, h]
    grind
  refine ext0 hl fun i hi => ?_
  have e : at0 (ladd p (q.map ((-1 : Rat) * ·))) i = 0 := h0 _ (at0_mem (by rw [ladd_length, List.length_map]; omega))
  rw [at0_ladd] at e
  have e2 : at0 (q.map ((-1 : Rat) * ·)) i = -1 * at0 q i := at0_smul _ _ _
  rw [e2] at e
  grind
theorem pr_step {a b f s s' q u1 v1 u2 v2 : List Rat} {c S r : Rat} (P : Pr a b f s u1 v1 u2 v2 c) (hS : S ≠ 0) (hr : r ≠ 0) (hsf : s.length ≤ f.length) (hq : q.length + s.length ≤ f.length + 1)
    (h : ∀ z, ev s' z = r * (S * ev f z - ev q z * ev s z)) : ∃ u' v' c', Pr a b s s' u2 v2 u' v' c' := by
  refine ⟨ladd (u1.map ((r * S) * ·)) ((pmul q u2).map ((-r) * ·)), ladd (v1.map ((r * S) * ·)) ((pmul q v2).map ((-r) * ·)), -(r * S * c), P.es, fun z => ?_, fun z => ?_, ?_, ?_, ?_⟩
  · rw [h, P.ef, P.es, ev_ladd, ev_ladd, ev_scale, ev_scale, ev_scale, ev_scale, ev_pmul, ev_pmul]
    grind
  · have := P.det z
    rw [ev_ladd, ev_ladd, ev_scale, ev_scale, ev_scale, ev_scale, ev_pmul, ev_pmul, ← this]
    grind
  · have := P.c0
    have h1 : r * S ≠ 0 := by grind
    have h2 : r * S * c ≠ 0 := by grind
    grind
  · have := P.l2
    omega
  · rw [ladd_length, List.length_map, List.length_map]
    have p1 := pmul_len_le q v2
    have p2 := P.l1
    have p3 := P.l2
    omega
theorem pr_start (a b : List Rat) : Pr a b a b [1] [] [] [1] 1 := by
  have e1 : ∀ z : Rat, ev [1] z = 1 := ev_one
  refine ⟨fun z => ?_, fun z => ?_, fun z => ?_, by decide, ?_, ?_⟩
  · rw [e1, ev_nil]
    grind
  · rw [e1, ev_nil]
    grind
  · rw [e1, ev_nil]
    grind
  · show 0 + a.length ≤ _
    omega
  · show 1 + a.length ≤ _
    omega
/-- a whole row without a common divisor is no longer, number by number, than any whole row that is a multiple of it -/
theorem prim_le {p w : List Int} {c : Rat} {B : Nat} (hp : ∀ g : Nat, (∀ n ∈ p, (g : Int) ∣ n) → g = 1) (hc : c ≠ 0) (h : toR w = smul c (toR p)) (hw : ∀ n ∈ w, n.natAbs ≤ B) : ∀ n ∈ p, n.natAbs ≤ B := by
  have hlen : w.length = p.length := by
    have := congrArg List.length h
    rwa [toR_len, smul_len, toR_len] at this
  have hd : (c.den : Int) ≠ 0 := by have := c.den_nz; omega
  have hdr : ((c.den : Int) : Rat) ≠ 0 := by exact_mod_cast hd
  have hcn : c = (c.num : Rat) / ((c.den : Int) : Rat) := by
    rw [← Rat.divInt_eq_div]
    exact (fr_self c).symm
  have key : ∀ i, w.getD i 0 * (c.den : Int) = c.num * p.getD i 0 := fun i => by
    have e : at0 (toR w) i = at0 (smul c (toR p)) i := by rw [h]
    rw [toR_at, at0_smul, toR_at] at e
    have k2 : ∀ x y n d c : Rat, d ≠ 0 → c = n / d → x = c * y → x * d = n * y := by
      intro x y n d c h1 h2 h3
      grind
    have := k2 _ _ _ _ _ hdr hcn e
    exact_mod_cast this
  have hdiv : ∀ i, (c.den : Int) ∣ p.getD i 0 := fun i => by
    have h1 : (c.den : Int) ∣ c.num * p.getD i 0 := ⟨w.getD i 0, by rw [← key, Int.mul_comm]⟩
    have h2 : c.den ∣ c.num.natAbs * (p.getD i 0).natAbs := by
      have := Int.ofNat_dvd_left.mp h1
      rwa [Int.natAbs_mul] at this
    exact Int.ofNat_dvd_left.mpr (Nat.Coprime.dvd_of_dvd_mul_left (Nat.Coprime.symm c.reduced) h2)
  have hden : c.den = 1 := hp c.den fun n hn => by
    obtain ⟨i, hi⟩ := List.mem_iff_getElem?.mp hn
    have := hdiv i
    rwa [List.getD_eq_getElem?_getD, hi] at this
  have hnum : c.num ≠ 0 := fun z => hc (Rat.num_eq_zero.mp z)
  intro n hn
  obtain ⟨i, hi⟩ := List.mem_iff_getElem?.mp hn
  have k := key i
  rw [hden, List.getD_eq_getElem?_getD (l := p), hi] at k
  have hiw : i < w.length := by
    rw [hlen]
    exact (List.getElem?_eq_some_iff.mp hi).1
  have hwi : w.getD i 0 ∈ w := List.mem_of_getElem? (i := i) (by rw [List.getD_eq_getElem?_getD, List.getElem?_eq_getElem hiw]; rfl)
  have b := hw _ hwi
  have k' : w.getD i 0 = c.num * n := by
    have : w.getD i 0 * ((1 : Nat) : Int) = c.num * n := k
    push_cast at this
    omega
  rw [k', Int.natAbs_mul] at b
  exact Nat.le_trans (Nat.le_mul_of_pos_left _ (by omega)) b
theorem pow_bits {L A α l : Nat} (hL : L ≤ 2 ^ l) (hA : A ≤ 2 ^ α) : L * (A * (L * A) ^ L) ≤ 2 ^ (l + α + (l + α) * L) := by
  have h1 : L * A ≤ 2 ^ (l + α) := by
    rw [Nat.pow_add]
    exact Nat.mul_le_mul hL hA
  have h2 : (L * A) ^ L ≤ 2 ^ ((l + α) * L) := by
    rw [Nat.pow_mul]
    exact Nat.pow_le_pow_left h1 _
  rw [← Nat.mul_assoc, Nat.pow_add]
  exact Nat.mul_le_mul h1 h2
/-- what stands in a chain has few bits: the rows, and what they are made with -/
theorem pr_small {an bn : List Int} {f s u1 v1 u2 v2 : List Rat} {c : Rat} {α l : Nat} (P : Pr (toR an) (toR bn) f s u1 v1 u2 v2 c) (ta : Tr (toR an)) (na : an ≠ []) (ts : Tr s) (ns : s ≠ []) (hfs : s.length < f.length)
    (la : s.length ≤ an.length) (lb : s.length ≤ bn.length) (l3 : 2 * s.length < an.length + bn.length) (za : ∀ n ∈ an, Bz α n) (zb : ∀ n ∈ bn, Bz α n) (hl : an.length + bn.length ≤ 2 ^ l) :
    ∃ (w u v : List Int) (t : Rat), t ≠ 0 ∧ toR w = smul t s ∧ (∀ z, ev (toR u) z = t * ev u2 z) ∧ (∀ z, ev (toR v) z = t * ev v2 z) ∧ u.length + s.length = bn.length ∧ v.length + s.length = an.length ∧
      (∀ n ∈ w, n.natAbs ≤ 2 ^ (l + α + (l + α) * (an.length + bn.length))) ∧ (∀ n ∈ u, n.natAbs ≤ 2 ^ (l + α + (l + α) * (an.length + bn.length))) ∧ ∀ n ∈ v, n.natAbs ≤ 2 ^ (l + α + (l + α) * (an.length + bn.length)) := by
  have nn : toR an ≠ [] := fun z => na (by
    have := congrArg List.length z
    rw [toR_len] at this
    exact List.eq_nil_of_length_eq_zero this)
  obtain ⟨u, v, w, lu, lv, lw, hn, huv, hw, he⟩ := small_combo (an := an) (bn := bn) (A := 2 ^ α) (ls := s.length) (fun n h => Nat.le_of_lt (za n h)) (fun n h => Nat.le_of_lt (zb n h)) (Nat.two_pow_pos α) la lb l3
  obtain ⟨tw, t1, t2, t3⟩ := trim_ex (toR w)
  obtain ⟨t, h1, h2, h3⟩ := pr_unique P ta nn ts ns hfs (u := toR u) (v := toR v) (w := tw) t1 (fun z => by rw [t3, he]) (by rw [toR_len] at t2; omega) (by rw [toR_len, toR_len]; omega)
  have hpb := pow_bits (A := 2 ^ α) hl (Nat.le_refl _)
  have hX : ((an.length + bn.length) * 2 ^ α) ^ (an.length + bn.length) ≤ 2 ^ (l + α + (l + α) * (an.length + bn.length)) := by
    have g1 : (an.length + bn.length) * 2 ^ α ≤ 2 ^ (l + α) := by
      rw [Nat.pow_add]
      exact Nat.mul_le_mul_right _ hl
    refine Nat.le_trans (Nat.pow_le_pow_left g1 _) ?_
    rw [← Nat.pow_mul]
    exact Nat.pow_le_pow_right (by decide) (by omega)
  have ht0 : t ≠ 0 := fun z => by
    obtain ⟨x, hx, hx0⟩ := hn
    have zu : ∀ z', ev (toR u) z' = 0 := fun z' => by rw [h2, z]; grind
    have zv : ∀ z', ev (toR v) z' = 0 := fun z' => by rw [h3, z]; grind
    have all : ∀ (l : List Int), (∀ z', ev (toR l) z' = 0) → ∀ n ∈ l, n = 0 := fun l hl0 n hn' => by
      have := ev_nought hl0 (n : Rat) (List.mem_map.mpr ⟨n, hn', rfl⟩)
      exact_mod_cast this
    rcases List.mem_append.mp hx with hx | hx
    · exact hx0 (all u zu x hx)
    · exact hx0 (all v zv x hx)
  refine ⟨w, u, v, t, ht0, ?_, h2, h3, lu, lv, fun n h => Nat.le_trans (hw n h) hpb, fun n h => Nat.le_trans (huv n (List.mem_append_left _ h)) hX, fun n h => Nat.le_trans (huv n (List.mem_append_right _ h)) hX⟩
  refine ev_same_len (by rw [toR_len, smul_len, lw]) fun z => ?_
  rw [← t3, h1]
  exact (ev_scale _ _ _).symm
/-- the bits of a row of the chain without a common divisor -/
theorem chain_bits {an bn p : List Int} {f s u1 v1 u2 v2 : List Rat} {c r : Rat} {α l : Nat} (P : Pr (toR an) (toR bn) f s u1 v1 u2 v2 c) (ta : Tr (toR an)) (na : an ≠ []) (ts : Tr s) (ns : s ≠ []) (hfs : s.length < f.length)
    (la : s.length ≤ an.length) (lb : s.length ≤ bn.length) (l3 : 2 * s.length < an.length + bn.length) (za : ∀ n ∈ an, Bz α n) (zb : ∀ n ∈ bn, Bz α n) (hl : an.length + bn.length ≤ 2 ^ l)
    (hp : ∀ g : Nat, (∀ n ∈ p, (g : Int) ∣ n) → g = 1) (hr : r ≠ 0) (h : s = smul r (toR p)) : ∀ n ∈ p, Bz (l + α + (l + α) * (an.length + bn.length) + 1) n := by
  obtain ⟨w, _, _, t, ht0, hw, _, _, _, _, hb, _, _⟩ := pr_small P ta na ts ns hfs la lb l3 za zb hl
  have e : toR w = smul (t * r) (toR p) := by rw [hw, h, smul_smul]
  intro n hn
  have := prim_le hp (by grind) e hb n hn
  unfold Bz
  rw [Nat.pow_succ]
  have := Nat.two_pow_pos (l + α + (l + α) * (an.length + bn.length))
  omega
end Vx
namespace Vx
theorem cd_mono {a b c d : Nat} {l : List Rat} (h : Cd a b l) (h1 : a ≤ c) (h2 : b ≤ d) : Cd c d l := by
  obtain ⟨D, d0, d1, d2⟩ := h
  exact ⟨D, d0, Nat.le_trans d1 (Nat.pow_le_pow_right (by decide) h1), fun x hx => let ⟨n, e, g⟩ := d2 x hx; ⟨n, e, Nat.le_trans g (Nat.pow_le_pow_right (by decide) h2)⟩⟩
theorem den_dvd {c : Rat} {D : Nat} {n : Int} (h : c * (D : Rat) = (n : Rat)) : c.den ∣ D := by
  have hd : (c.den : Int) ≠ 0 := by have := c.den_nz; omega
  have hdr : ((c.den : Int) : Rat) ≠ 0 := by exact_mod_cast hd
  have hcn : c = (c.num : Rat) / ((c.den : Int) : Rat) := by
    rw [← Rat.divInt_eq_div]
    exact (fr_self c).symm
  have key : ∀ c n d D m : Rat, d ≠ 0 → c = n / d → c * D = m → n * D = m * d := by
    intro c n d D m h1 h2 h3
    grind
  have e := key _ _ _ _ _ hdr hcn h
  have e2 : c.num * (D : Int) = n * (c.den : Int) := by exact_mod_cast e
  have h1 : c.den ∣ c.num.natAbs * D := by
    have h3 : (c.den : Int) ∣ c.num * (D : Int) := ⟨n, by rw [e2, Int.mul_comm]⟩
    have := Int.ofNat_dvd_left.mp h3
    rwa [Int.natAbs_mul, Int.natAbs_natCast] at this
  exact Nat.Coprime.dvd_of_dvd_mul_left (Nat.Coprime.symm c.reduced) h1
theorem mul_den {c : Rat} {D : Nat} (h : c.den ∣ D) : c * (D : Rat) = ((c.num * ((D / c.den : Nat) : Int) : Int) : Rat) := by
  obtain ⟨k, rfl⟩ := h
  have hdr : ((c.den : Int) : Rat) ≠ 0 := by have := c.den_nz; exact_mod_cast this
  have hcn : c = (c.num : Rat) / ((c.den : Int) : Rat) := by
    rw [← Rat.divInt_eq_div]
    exact (fr_self c).symm
  rw [Nat.mul_div_cancel_left _ c.den_pos]
  have key : ∀ c n d k : Rat, d ≠ 0 → c = n / d → c * (d * k) = n * k := by
    intro c n d k h1 h2
    grind
  have := key _ _ _ (k : Rat) hdr hcn
  push_cast at this ⊢
  exact this
theorem cd_of_qs4 {l : List Rat} (h : Qs 4 l) : Cd 19 23 l := by
  refine ⟨360360, by decide, by decide, fun c hc => ?_⟩
  obtain ⟨h1, h2⟩ := h c hc
  have hdv : c.den ∣ 360360 := by
    have : ∀ d, d < 16 → d ≠ 0 → d ∣ 360360 := by decide
    exact this _ h2 c.den_nz
  refine ⟨_, mul_den hdv, ?_⟩
  rw [Int.natAbs_mul, Int.natAbs_natCast]
  have h3 : 360360 / c.den ≤ 360360 := Nat.div_le_self _ _
  have h4 : c.num.natAbs ≤ 15 := by
    have : c.num.natAbs < 16 := h1
    omega
  exact Nat.le_trans (Nat.mul_le_mul h4 h3) (by decide)
theorem cd_cons {a b : Nat} {c : Rat} {l : List Rat} (h : Cd a b (c :: l)) : Cd a b l := by
  obtain ⟨D, d0, d1, d2⟩ := h
  exact ⟨D, d0, d1, fun x hx => d2 x (List.mem_cons_of_mem _ hx)⟩
theorem pmul_ints {D E : Nat} {b d : Nat} : ∀ {p q : List Rat}, (∀ c ∈ p, ∃ n : Int, c * (D : Rat) = (n : Rat) ∧ n.natAbs ≤ 2 ^ b) → (∀ c ∈ q, ∃ n : Int, c * (E : Rat) = (n : Rat) ∧ n.natAbs ≤ 2 ^ d) →
    ∀ c ∈ pmul p q, ∃ n : Int, c * ((D * E : Nat) : Rat) = (n : Rat) ∧ n.natAbs ≤ p.length * 2 ^ (b + d)
  | [], q, _, _, c, hc => by cases hc
  | [x], q, hp, hq, c, hc => by
    obtain ⟨y, hy, rfl⟩ := List.mem_map.mp (show c ∈ q.map (x * ·) from hc)
    obtain ⟨n, e1, g1⟩ := hp x List.mem_cons_self
    obtain ⟨m, e2, g2⟩ := hq y hy
    refine ⟨n * m, by push_cast; grind, ?_⟩
    rw [Int.natAbs_mul, Nat.pow_add, show [x].length = 1 from rfl, Nat.one_mul]
    exact Nat.mul_le_mul g1 g2
  | x :: y :: p, q, hp, hq, c, hc => by
    obtain ⟨n, e1, g1⟩ := hp x List.mem_cons_self
    have ih := pmul_ints (p := y :: p) (fun c h => hp c (List.mem_cons_of_mem _ h)) hq
    have hc' : c ∈ ladd (q.map (x * ·)) (0 :: pmul (y :: p) q) := hc
    obtain ⟨i, hi⟩ := List.mem_iff_getElem?.mp hc'
    have e := at0_some hi
    rw [at0_ladd] at e
    have f1 : ∃ n : Int, at0 (q.map (x * ·)) i * ((D * E : Nat) : Rat) = (n : Rat) ∧ n.natAbs ≤ 2 ^ (b + d) := by
      have e0 : at0 (q.map (x * ·)) i = x * at0 q i := at0_smul _ _ _
      obtain ⟨m, e2, g2⟩ : ∃ n : Int, at0 q i * (E : Rat) = (n : Rat) ∧ n.natAbs ≤ 2 ^ d := by
        by_cases h : i < q.length
        · exact hq _ (at0_mem h)
        · rw [at0_out (by omega)]
          exact ⟨0, by push_cast; grind, Nat.zero_le _⟩
      refine ⟨n * m, by rw [e0]; push_cast; grind, ?_⟩
      rw [Int.natAbs_mul, Nat.pow_add]
      exact Nat.mul_le_mul g1 g2
    have f2 : ∃ n : Int, at0 (0 :: pmul (y :: p) q) i * ((D * E : Nat) : Rat) = (n : Rat) ∧ n.natAbs ≤ (y :: p).length * 2 ^ (b + d) := by
      cases i with
      | zero => exact ⟨0, by show (0 : Rat) * _ = _; push_cast; grind, Nat.zero_le _⟩
      | succ i =>
        show ∃ n : Int, at0 (pmul (y :: p) q) i * _ = _ ∧ _
        by_cases h : i < (pmul (y :: p) q).length
        · exact ih _ (at0_mem h)
        · rw [at0_out (by omega)]
          exact ⟨0, by push_cast; grind, Nat.zero_le _⟩
    obtain ⟨n1, a1, b1⟩ := f1
    obtain ⟨n2, a2, b2⟩ := f2
    refine ⟨n1 + n2, by rw [← e]; push_cast; push_cast at a1 a2; grind, ?_⟩
    have e5 : (x :: y :: p).length * 2 ^ (b + d) = 2 ^ (b + d) + (y :: p).length * 2 ^ (b + d) := by
      rw [List.length_cons, Nat.add_mul, Nat.one_mul]
      omega
    omega
theorem cd_pmul {a b c d k : Nat} {p q : List Rat} (hp : Cd a b p) (hq : Cd c d q) (hl : p.length ≤ 2 ^ k) : Cd (a + c) (b + d + k) (pmul p q) := by
  obtain ⟨D, d0, d1, d2⟩ := hp
  obtain ⟨E, e0, e1, e2⟩ := hq
  refine ⟨D * E, Nat.mul_pos d0 e0, by rw [Nat.pow_add]; exact Nat.mul_le_mul d1 e1, fun x hx => ?_⟩
  obtain ⟨n, h1, h2⟩ := pmul_ints d2 e2 x hx
  refine ⟨n, h1, Nat.le_trans h2 ?_⟩
  rw [Nat.pow_add 2 (b + d) k, Nat.mul_comm]
  exact Nat.mul_le_mul_left _ hl
theorem cd_nil {a b : Nat} : Cd a b [] := ⟨1, by decide, Nat.one_le_two_pow, fun c h => by cases h⟩
theorem cd_prod {a b c d k : Nat} {p q r : List Rat} (hp : Cd a b p) (hq : Cd c d q) (hl : p.length ≤ 2 ^ k) (tp : Tr p) (tq : Tr q) (tr : Tr r) (h : ∀ z, ev r z = ev p z * ev q z) : Cd (a + c) (b + d + k) r := by
  by_cases e : p = [] ∨ q = []
  · rw [ev_nil_of tr h e]
    exact cd_nil
  · rw [prod_is tp tq tr h (fun z => e (.inl z)) fun z => e (.inr z)]
    exact cd_pmul hp hq hl
/-! common divisors -/
def Lead1 (g : List Rat) : Prop := ∃ i, at0 g i = 1 ∧ ∀ j, j < i → at0 g j = 0
structure Gcd (p q g : List Rat) : Prop where
  tr : Tr g
  ld : Lead1 g
  l : ∃ x : List Rat, ∀ z, ev p z = ev x z * ev g z
  r : ∃ y : List Rat, ∀ z, ev q z = ev y z * ev g z
  b : ∃ e f : List Rat, ∀ z, ev g z = ev e z * ev p z + ev f z * ev q z
theorem Lead1.ne {g : List Rat} (h : Lead1 g) : g ≠ [] := fun z => by
  obtain ⟨i, h1, _⟩ := h
  rw [z, at0_out (l := []) (Nat.zero_le _)] at h1
  exact absurd h1 (by decide)
theorem lead1_uniq {g h : List Rat} {k : Rat} (a : Lead1 g) (b : Lead1 h) (e : h = smul k g) : h = g := by
  obtain ⟨i, a1, a2⟩ := a
  obtain ⟨j, b1, b2⟩ := b
  have key : ∀ n, at0 h n = k * at0 g n := fun n => by rw [e, at0_smul]
  have hk : k = 1 := by
    rcases Nat.lt_trichotomy i j with hij | hij | hij
    · have h1 := b2 i hij
      rw [key, a1] at h1
      have h2 := key j
      rw [b1] at h2
      grind
    · subst hij
      have h2 := key i
      rw [b1, a1] at h2
      grind
    · have h1 := a2 j hij
      have h2 := key j
      rw [b1, h1] at h2
      grind
  rw [e, hk, smul_one]
theorem mult_len {a g r : List Rat} (tg : Tr g) (ng : g ≠ []) (tr : Tr r) (nr : r ≠ []) (h : ∀ z, ev r z = ev a z * ev g z) : ∃ t : List Rat, Tr t ∧ t ≠ [] ∧ (∀ z, ev t z = ev a z) ∧ r.length + 1 = t.length + g.length ∧ r = pmul t g := by
  obtain ⟨t, h1, _, h3⟩ := trim_ex a
  have e : ∀ z, ev r z = ev t z * ev g z := fun z => by rw [h, h3]
  have nt : t ≠ [] := fun z => nr (ev_nil_of tr e (.inl z))
  have hr := prod_is h1 tg tr e nt ng
  exact ⟨t, h1, nt, h3, by rw [hr]; exact (pmul_shape t g nt ng).1, hr⟩
theorem Gcd.uniq {p q g h : List Rat} (a : Gcd p q g) (b : Gcd p q h) : h = g := by
  have na := a.ld.ne
  have nb := b.ld.ne
  -- each is a multiple of the other
  have mul : ∀ {g h : List Rat}, Gcd p q g → Gcd p q h → ∃ x : List Rat, ∀ z, ev h z = ev x z * ev g z := fun {g h} a b => by
    obtain ⟨x, hx⟩ := a.l
    obtain ⟨y, hy⟩ := a.r
    obtain ⟨e, f, hb⟩ := b.b
    refine ⟨ladd (pmul e x) (pmul f y), fun z => ?_⟩
    rw [hb, ev_ladd, ev_pmul, ev_pmul, hx, hy]
    grind
  obtain ⟨x, hx⟩ := mul a b
  obtain ⟨y, hy⟩ := mul b a
  obtain ⟨t, t1, t2, t3, t4, t5⟩ := mult_len a.tr na b.tr nb hx
  obtain ⟨s, _, s2, _, s4, _⟩ := mult_len b.tr nb a.tr na hy
  have l1 := List.length_pos_iff.mpr t2
  have l2 := List.length_pos_iff.mpr s2
  obtain ⟨k, rfl⟩ : ∃ k, t = [k] := List.length_eq_one_iff.mp (by omega)
  exact lead1_uniq a.ld b.ld t5
theorem ev_smul (c : Rat) (l : List Rat) (z : Rat) : ev (smul c l) z = c * ev l z := ev_scale _ _ _
/-- an end of a chain, led -/
theorem gcd_of {p q g f : List Rat} {c : Rat} (tf : Tr f) (hc : c ≠ 0) (hg : g = smul c f) (ld : Lead1 g) (l : ∃ x : List Rat, ∀ z, ev p z = ev x z * ev f z) (r : ∃ y : List Rat, ∀ z, ev q z = ev y z * ev f z)
    (b : ∃ e h : List Rat, ∀ z, ev f z = ev e z * ev p z + ev h z * ev q z) : Gcd p q g := by
  subst hg
  have tg : Tr (smul c f) := fun hn => by
    have hl : f ≠ [] := fun z => hn (by rw [z]; rfl)
    rw [List.getLast_eq_getElem]
    have e := at0_get (l := smul c f) (i := (smul c f).length - 1) (by have := List.length_pos_iff.mpr hn; omega)
    rw [List.getElem?_eq_getElem (by have := List.length_pos_iff.mpr hn; omega)] at e
    rw [Option.some.inj e, at0_smul, smul_len]
    have h2 := tf hl
    rw [List.getLast_eq_getElem] at h2
    have e2 := at0_get (l := f) (i := f.length - 1) (by have := List.length_pos_iff.mpr hl; omega)
    rw [List.getElem?_eq_getElem (by have := List.length_pos_iff.mpr hl; omega)] at e2
    rw [Option.some.inj e2] at h2
    grind
  refine ⟨tg, ld, ?_, ?_, ?_⟩
  · obtain ⟨x, hx⟩ := l
    refine ⟨smul (1 / c) x, fun z => ?_⟩
    rw [hx, ev_smul, ev_smul]
    grind
  · obtain ⟨x, hx⟩ := r
    refine ⟨smul (1 / c) x, fun z => ?_⟩
    rw [hx, ev_smul, ev_smul]
    grind
  · obtain ⟨e, h, hb⟩ := b
    refine ⟨smul c e, smul c h, fun z => ?_⟩
    rw [ev_smul, ev_smul, ev_smul, hb]
    grind
end Vx
namespace Vx
/-- without noughts at the end and without a common divisor -/
structure PrimOf (ns ms : List Int) : Prop where
  tr : Tr (toR ms)
  c : ∃ c : Rat, c ≠ 0 ∧ ∀ z, ev (toR ms) z = c * ev (toR ns) z
  g : ms ≠ [] → ∀ g : Nat, (∀ n ∈ ms, (g : Int) ∣ n) → g = 1
theorem toR_nil_iff {l : List Int} : toR l = [] ↔ l = [] := by
  constructor
  · intro h
    have := congrArg List.length h
    rw [toR_len] at this
    exact List.eq_nil_of_length_eq_zero this
  · intro h
    rw [h]
    rfl
def ChI (an bn fs ss : List Int) : Prop := (fs = an ∧ ss = bn) ∨ ∃ (a b : List Int) (u1 v1 u2 v2 : List Rat) (c : Rat), ((a = an ∧ b = bn) ∨ (a = bn ∧ b = an)) ∧ Pr (toR a) (toR b) (toR fs) (toR ss) u1 v1 u2 v2 c ∧ ss.length < fs.length ∧ ss.length ≤ a.length ∧ ss.length ≤ b.length
/-- the bits of what stands in the chain -/
def bChain (l α N : Nat) : Nat := l + α + (l + α) * N + 1
theorem quo_len {f s q r : List Rat} {S : Rat} (tf : Tr f) (ts : Tr s) (ns : s ≠ []) (hS : S ≠ 0) (lr : r.length < s.length) (hsf : s.length ≤ f.length) (h : ∀ z, S * ev f z = ev q z * ev s z + ev r z) :
    ∃ q' : List Rat, (∀ z, ev q' z = ev q z) ∧ q'.length + s.length ≤ f.length + 1 := by
  obtain ⟨q', q1, _, q3⟩ := trim_ex q
  refine ⟨q', q3, ?_⟩
  by_cases hz : q' = []
  · rw [hz]
    show 0 + s.length ≤ _
    omega
  · obtain ⟨w, w1, w2, w3⟩ := trim_ex (ladd (f.map (S * ·)) (r.map ((-1 : Rat) * ·)))
    have e : w = pmul q' s := prod_is q1 ts w1 (fun z => by rw [w3, ev_ladd, ev_scale, ev_scale, h, q3]; grind) hz ns
    have l := (pmul_shape q' s hz ns).1
    rw [← e] at l
    rw [ladd_length, List.length_map, List.length_map] at w2
    omega
theorem chain_step {an bn fs ss rs ps : List Int} {S : Int} {q : List Rat} {α l N : Nat} (I : ChI an bn fs ss) (ta : Tr (toR an)) (tb : Tr (toR bn)) (tf : Tr (toR fs)) (ts : Tr (toR ss)) (ns : ss ≠ [])
    (za : ∀ n ∈ an, Bz α n) (zb : ∀ n ∈ bn, Bz α n) (hN : an.length + bn.length ≤ N) (hl : N ≤ 2 ^ l) (hS : S ≠ 0) (h : ∀ z, (S : Rat) * ev (toR fs) z = ev q z * ev (toR ss) z + ev (toR rs) z) (lr : rs.length < ss.length) (hp : PrimOf rs ps) (lp : ps.length ≤ rs.length) :
    ChI an bn ss ps ∧ ∀ n ∈ ps, Bz (bChain l α N) n := by
  have hSr : (S : Rat) ≠ 0 := by exact_mod_cast hS
  have nsr : toR ss ≠ [] := fun z => ns (toR_nil_iff.mp z)
  obtain ⟨r, hr0, hr⟩ := hp.c
  -- the new state, by the way it is reached
  have key : ∃ (a b : List Int) (u1 v1 u2 v2 : List Rat) (c : Rat), ((a = an ∧ b = bn) ∨ (a = bn ∧ b = an)) ∧ Pr (toR a) (toR b) (toR ss) (toR ps) u1 v1 u2 v2 c ∧ ps.length < ss.length ∧ ps.length ≤ a.length ∧ ps.length ≤ b.length := by
    have step : ∀ {a b : List Int} {u1 v1 u2 v2 : List Rat} {c : Rat}, Pr (toR a) (toR b) (toR fs) (toR ss) u1 v1 u2 v2 c → ss.length ≤ fs.length → ∃ u' v' c', Pr (toR a) (toR b) (toR ss) (toR ps) u2 v2 u' v' c' := fun {a b u1 v1 u2 v2 c} P hsf => by
      obtain ⟨q', hq', lq'⟩ := quo_len tf ts nsr hSr (by rw [toR_len, toR_len]; exact lr) (by rw [toR_len, toR_len]; exact hsf) h
      exact pr_step P hSr hr0 (by rw [toR_len, toR_len]; exact hsf) lq' fun z => by
        rw [hr, hq', h]
        grind
    rcases I with ⟨rfl, rfl⟩ | ⟨a, b, u1, v1, u2, v2, c, hab, P, l1, l2, l3⟩
    · by_cases hsf : ss.length ≤ fs.length
      · obtain ⟨u', v', c', P'⟩ := step (pr_start (toR fs) (toR ss)) hsf
        exact ⟨fs, ss, _, _, u', v', c', .inl ⟨rfl, rfl⟩, P', by omega, by omega, by omega⟩
      · -- the first one is shorter: it is the rest itself
        obtain ⟨q', q1, _, q3⟩ := trim_ex q
        obtain ⟨w, w1, w2, w3⟩ := trim_ex (ladd ((toR fs).map ((S : Rat) * ·)) ((toR rs).map ((-1 : Rat) * ·)))
        have e : q' = [] := no_small q1 ts nsr w1 (by rw [ladd_length, List.length_map, List.length_map, toR_len, toR_len] at w2; rw [toR_len]; omega) fun z => by
          rw [w3, ev_ladd, ev_scale, ev_scale, h, q3]
          grind
        have hq0 : ∀ z, ev q z = 0 := fun z => by rw [← q3, e]; rfl
        have hps : ∀ z, ev (toR ps) z = (r * S) * ev (toR fs) z := fun z => by
          have h1 := h z
          rw [hq0] at h1
          rw [hr]
          grind
        have hrs : r * (S : Rat) ≠ 0 := by grind
        have eps : toR ps = smul (r * S) (toR fs) := ev_inj hp.tr (fun hn => by
          have hl : toR fs ≠ [] := fun z => hn (by rw [z]; rfl)
          have h2 := tf hl
          rw [List.getLast_eq_getElem] at h2 ⊢
          have e1 := at0_get (l := toR fs) (i := (toR fs).length - 1) (by have := List.length_pos_iff.mpr hl; omega)
          rw [List.getElem?_eq_getElem (by have := List.length_pos_iff.mpr hl; omega)] at e1
          have e2 := at0_get (l := smul (r * S) (toR fs)) (i := (smul (r * S) (toR fs)).length - 1) (by have := List.length_pos_iff.mpr hn; omega)
          rw [List.getElem?_eq_getElem (by have := List.length_pos_iff.mpr hn; omega)] at e2
          rw [Option.some.inj e2, at0_smul, smul_len]
          rw [Option.some.inj e1] at h2
          grind) fun z => by rw [hps, ev_smul]
        have lps : ps.length = fs.length := by
          have := congrArg List.length eps
          rwa [toR_len, smul_len, toR_len] at this
        refine ⟨ss, fs, [1], [], [], [r * S], r * S, .inr ⟨rfl, rfl⟩, ⟨fun z => ?_, fun z => ?_, fun z => ?_, hrs, ?_, ?_⟩, by omega, by omega, by omega⟩
        · rw [ev_one, ev_nil]
          grind
        · rw [hps, ev_nil, show ev [r * (S : Rat)] z = r * S + z * 0 from rfl]
          grind
        · rw [ev_one, ev_nil, show ev [r * (S : Rat)] z = r * S + z * 0 from rfl]
          grind
        · show 0 + _ ≤ _
          omega
        · show 1 + _ ≤ _
          omega
    · obtain ⟨u', v', c', P'⟩ := step P (by omega)
      exact ⟨a, b, _, _, u', v', c', hab, P', by omega, by omega, by omega⟩
  refine ⟨.inr key, fun n hn => ?_⟩
  obtain ⟨a, b, u1, v1, u2, v2, c, hab, P, l1, l2, l3⟩ := key
  have hps : ps ≠ [] := fun z => by rw [z] at hn; cases hn
  have hpos := List.length_pos_iff.mpr hps
  have ab : Tr (toR a) ∧ (∀ n ∈ a, Bz α n) ∧ (∀ n ∈ b, Bz α n) ∧ a.length + b.length ≤ N ∧ 2 * ps.length < a.length + b.length := by
    rcases hab with ⟨rfl, rfl⟩ | ⟨rfl, rfl⟩
    · refine ⟨ta, za, zb, hN, ?_⟩
      have := P.l2
      have := P.l1
      rcases I with ⟨rfl, rfl⟩ | ⟨a', b', _, _, _, _, _, h', _, i1, i2, i3⟩
      · omega
      · rcases h' with ⟨rfl, rfl⟩ | ⟨rfl, rfl⟩ <;> omega
    · refine ⟨tb, zb, za, by omega, ?_⟩
      rcases I with ⟨rfl, rfl⟩ | ⟨a', b', _, _, _, _, _, h', _, i1, i2, i3⟩
      · omega
      · rcases h' with ⟨rfl, rfl⟩ | ⟨rfl, rfl⟩ <;> omega
  obtain ⟨ta', za', zb', hN', h2⟩ := ab
  have := chain_bits (p := ps) (r := 1) P ta' (fun z => by rw [z] at l2; exact absurd l2 (by show ¬ ps.length ≤ 0; omega)) hp.tr (fun z => hps (toR_nil_iff.mp z)) (by rw [toR_len, toR_len]; exact l1) (by rw [toR_len]; exact l2) (by rw [toR_len]; exact l3) (by rw [toR_len]; exact h2) za' zb' (Nat.le_trans hN' hl) (hp.g hps) (by decide) (smul_one _).symm n hn
  refine this.mono ?_
  unfold bChain
  have := Nat.mul_le_mul_left (l + α) hN'
  omega
/-- at the end -/
theorem chain_end {an bn fs : List Int} (I : ChI an bn fs []) : (∃ x : List Rat, ∀ z, ev (toR an) z = ev x z * ev (toR fs) z) ∧ (∃ y : List Rat, ∀ z, ev (toR bn) z = ev y z * ev (toR fs) z) ∧ ∃ e h : List Rat, ∀ z, ev (toR fs) z = ev e z * ev (toR an) z + ev h z * ev (toR bn) z := by
  have e0 : ∀ z, ev (toR []) z = 0 := fun z => rfl
  rcases I with ⟨rfl, rfl⟩ | ⟨a, b, u1, v1, u2, v2, c, hab, P, _, _, _⟩
  · refine ⟨⟨[1], fun z => by rw [ev_one]; grind⟩, ⟨[], fun z => by rw [e0, ev_nil]; grind⟩, ⟨[1], [], fun z => by rw [ev_one, ev_nil]; grind⟩⟩
  · have c0 := P.c0
    have h1 : ∀ z, ev (toR a) z = ev (smul (1 / c) v2) z * ev (toR fs) z := fun z => by
      have h := P.es z
      rw [e0] at h
      have hd := P.det z
      have : c * ev (toR a) z = ev v2 z * ev (toR fs) z := by
        rw [P.ef, ← hd]
        have : ev v2 z * (ev u1 z * ev (toR a) z + ev v1 z * ev (toR b) z) = ev u1 z * ev v2 z * ev (toR a) z + ev v1 z * (ev v2 z * ev (toR b) z) := by grind
        rw [this]
        have h2 : ev v2 z * ev (toR b) z = -(ev u2 z * ev (toR a) z) := by grind
        rw [h2]
        grind
      rw [ev_smul]
      grind
    have h2 : ∀ z, ev (toR b) z = ev (smul (-(1 / c)) u2) z * ev (toR fs) z := fun z => by
      have h := P.es z
      rw [e0] at h
      have hd := P.det z
      have : c * ev (toR b) z = -(ev u2 z * ev (toR fs) z) := by
        rw [P.ef, ← hd]
        have : ev u2 z * (ev u1 z * ev (toR a) z + ev v1 z * ev (toR b) z) = ev u1 z * (ev u2 z * ev (toR a) z) + ev u2 z * ev v1 z * ev (toR b) z := by grind
        rw [this]
        have h2 : ev u2 z * ev (toR a) z = -(ev v2 z * ev (toR b) z) := by grind
        rw [h2]
        grind
      rw [ev_smul]
      grind
    rcases hab with ⟨rfl, rfl⟩ | ⟨rfl, rfl⟩
    · exact ⟨⟨_, h1⟩, ⟨_, h2⟩, ⟨u1, v1, P.ef⟩⟩
    · exact ⟨⟨_, h2⟩, ⟨_, h1⟩, ⟨v1, u1, fun z => by rw [P.ef]; grind⟩⟩
end Vx
namespace Vx
theorem ev_ats {p q : List Rat} (h : ∀ z, ev p z = ev q z) (i : Nat) : at0 p i = at0 q i := by
  have h0 := ev_nought (l := ladd p (q.map ((-1 : Rat) * ·))) fun z => by
    rw [ev_ladd, ev_scale, h]
    grind
  have e : at0 (ladd p (q.map ((-1 : Rat) * ·))) i = 0 := by
    by_cases hi : i < (ladd p (q.map ((-1 : Rat) * ·))).length
    · exact h0 _ (at0_mem hi)
    · exact at0_out (by omega)
  rw [at0_ladd] at e
  have e2 : at0 (q.map ((-1 : Rat) * ·)) i = -1 * at0 q i := at0_smul _ _ _
  rw [e2] at e
  grind
theorem cd_over {r : List Rat} {ns : List Int} {m : Int} {d e : Nat} (h : ∀ x, ev r x = ev (toR ns) x / (m : Rat)) (hm : m ≠ 0) (hd : Bz d m) (he : ∀ n ∈ ns, Bz e n) : Cd d e r := by
  have hmr : (m : Rat) ≠ 0 := by exact_mod_cast hm
  have h1 : ∀ i, at0 r i = 1 / (m : Rat) * at0 (toR ns) i := fun i => by
    rw [← at0_smul]
    refine ev_ats (fun z => ?_) i
    rw [ev_smul, h]
    grind
  refine ⟨m.natAbs, by omega, Nat.le_of_lt hd, fun c hc => ?_⟩
  obtain ⟨i, hi⟩ := List.mem_iff_getElem?.mp hc
  have e1 := at0_some hi
  rw [h1, toR_at] at e1
  have hb : (ns.getD i 0).natAbs ≤ 2 ^ e := by
    by_cases hl : i < ns.length
    · have : ns.getD i 0 ∈ ns := by
        rw [List.getD_eq_getElem?_getD, List.getElem?_eq_getElem hl]
        exact List.getElem_mem hl
      exact Nat.le_of_lt (he _ this)
    · rw [List.getD_eq_getElem?_getD, List.getElem?_eq_none (by omega)]
      exact Nat.zero_le _
  rcases Int.natAbs_eq m with z | z
  · refine ⟨ns.getD i 0, ?_, hb⟩
    have e2 : ((m.natAbs : Nat) : Rat) = (m : Rat) := by exact_mod_cast z.symm
    rw [e2, ← e1]
    grind
  · refine ⟨-ns.getD i 0, ?_, by rw [Int.natAbs_neg]; exact hb⟩
    have e2 : ((m.natAbs : Nat) : Rat) = -(m : Rat) := by
      have : ((m.natAbs : Nat) : Int) = -m := by omega
      exact_mod_cast this
    rw [e2, ← e1]
    push_cast
    grind
/-! a cofactor below the other's degree is the only one, and small -/
theorem len_of_mul {w b x : List Rat} (tw : Tr w) (tb : Tr b) (nb : b ≠ []) (h : ∀ z, ev w z = ev b z * ev x z) (lw : w.length < b.length) : w = [] := by
  obtain ⟨x', x1, _, x3⟩ := trim_ex x
  have := no_small x1 tb nb tw (by omega) (fun z => by rw [h, x3]; grind)
  subst this
  refine ev_inj tw tr_nil fun z => ?_
  rw [h, ← x3, ev_nil]
  grind
end Vx
-- big
set_option Elab.async false
set_option linter.all false
set_option maxRecDepth 100000
set_option maxHeartbeats 4000000
namespace Vx
open PySem PySem.Spec PyProof.Rows L2
local macro_rules | `(tactic| walk_at "cl") => `(tactic| first | assumption | exact Bz.mono (Bz.mul (by assumption) (by assumption)) (by decide) | rfl | omega | exact sz_of 0 rfl (by decide) | exact sz_of 1 rfl (by decide) | exact sz_of 2 rfl (by decide) | exact sz_of 3 rfl (by decide) | exact cmuly (by assumption) (by assumption) (by decide) | exact Bz.mono (Bz.mul (by assumption) (by assumption)) (by decide) | decide)
local macro_rules | `(tactic| walk_at "ex") => `(tactic| ((show Exists _); first | apply @Exists.intro V | apply @Exists.intro Int | apply @Exists.intro Addr | apply @Exists.intro (List V) | apply @Exists.intro Nat | apply @Exists.intro Str | apply @Exists.intro Bool | apply @Exists.intro (Option V) | apply @Exists.intro String | apply @Exists.intro Rat | apply @Exists.intro (List Rat)))
local macro_rules | `(tactic| walk_at "rd") => `(tactic| ((repeat (first | (walk_at "ex") | (apply And.intro; (focus (walk_at "cl"))))); (try dsimp only [])))
local macro_rules | `(tactic| walk_at "r0") => `(tactic| (repeat (first | (walk_at "ex") | (apply And.intro; (focus (walk_at "cl"))))))
section
variable {P : Program} {w : World} {K : PySem.W.Frag} {mg : Str → Option Value} {base : Heap}
/-- _law_lowest, the second number below 0 or above -/
def spLowN (K : PySem.W.Frag) : Sp := fun vs H Q _ => ∃ n m : Int, vs = [.int n, .int m] ∧ m ≠ 0 ∧ Bz 1900000 m ∧ ∀ v H', Same H H' → FrT K H' v (Rat.divInt n m) → Q v H'
theorem d__law_lowestN (W : FunIn K mg "_law_lowest" s__law_lowest) (T : Blt mg) (sy : Sys base) (hP : P.given.tree = none) : Df P w K mg base "_law_lowest" 33 ["n", "m"] (spLowN K) := by
  obtain ⟨f, fd, F, hm⟩ := W
  refine ⟨f, fd, F.ok sc__law_lowest (fun vs H Q E h => ?_) (fun cdv A outer s H vs Q E hr h => ?_), hm, F.kp, F.binds fun _ _ _ _ _ _ us hl => match us, hl with | [_, _], _ => rfl⟩
  · obtain ⟨n, m, rfl, _⟩ := h
    rfl
  · obtain ⟨n, m, rfl, hm0, hmz, q⟩ := h
    have nd := sc__law_lowest.nd
    have hg : ((n.natAbs.gcd m.natAbs : Nat) : Int) ≠ 0 := by
      have := Nat.gcd_pos_of_pos_right n.natAbs (show 0 < m.natAbs by omega)
      omega
    have hgz : Bz 1900000 ((n.natAbs.gcd m.natAbs : Nat) : Int) := by
      unfold Bz
      rw [Int.natAbs_natCast]
      exact Nat.lt_of_le_of_lt (Nat.gcd_le_right _ (by omega)) hmz
    have fin : ∀ p, H p = none → Q (.ref p) (upd H p (.tup [.int (Rat.divInt n m).num, .int (Rat.divInt n m).den])) := fun p hp => q _ _ (same_new hp) ⟨p, rfl, SqT.of upd_same⟩
    have c1 : ∀ i : Int, CDivY i ((n.natAbs.gcd m.natAbs : Nat) : Int) := fun i => hg
    have c2 := c1 n
    have c3 := c1 m
    have ea : (if n < 0 then -n else n) = (n.natAbs : Int) := by split <;> omega
    have em : (if m < 0 then -m else m) = (m.natAbs : Int) := by split <;> omega
    refine ⟨_, (pss_cons (ps_par (i := 2) (j := 3) (by rfl) nd rfl rfl (by decide) rfl rfl (pa_cons (pe_callB call_abs (by rfl) T.n_abs (by decide +kernel) (pa_cons (pv 0) pa_nil)) (pa_cons (pe_callB call_abs (by rfl) T.n_abs (by decide +kernel) (pa_cons (pv 1) pa_nil)) pa_nil)) (by rfl))
        (pss_cons (ps_while PassesOwn.never (pt_cmpR op_ne (pv 3) pe_int (nomark _)) (pss_one (ps_par (i := 2) (j := 3) (by rfl) nd rfl rfl (by decide) rfl rfl (pa_cons (pv 3) (pa_cons (pe_op op_mod (pe_callTy call_int1 (by rfl) T.n_int (by decide +kernel) (pa_cons (pv 2) pa_nil)) (pv 3)) pa_nil)) (by rfl))))
        (pss_one (ps_ret (pe_ifExp (pt_cmpR op_gt (pv 1) pe_int (nomark _)) (pe_tup (pa_cons (pe_op (op_fdivY sy (hr.mono (by decide)) hP ⟨_, _, rfl, rfl, rfl, rfl, rfl⟩) (pv 0) (pv 2)) (pa_cons (pe_op (op_fdivY sy (hr.mono (by decide)) hP ⟨_, _, rfl, rfl, rfl, rfl, rfl⟩) (pv 1) (pv 2)) pa_nil))) (pe_tup (pa_cons (pe_op op_sub pe_int (pe_op (op_fdivY sy (hr.mono (by decide)) hP ⟨_, _, rfl, rfl, rfl, rfl, rfl⟩) (pv 0) (pv 2))) (pa_cons (pe_op op_sub pe_int (pe_op (op_fdivY sy (hr.mono (by decide)) hP ⟨_, _, rfl, rfl, rfl, rfl, rfl⟩) (pv 1) (pv 2))) pa_nil)))))))), ?_⟩
    walk_at "rd"
    refine ⟨fun k σ H' => ∃ a b : Nat, σ = [some (.int n), some (.int m), some (.int (a : Int)), some (.int (b : Int))] ∧ H' = H ∧ k = b ∧ a.gcd b = n.natAbs.gcd m.natAbs, ⟨m.natAbs, n.natAbs, m.natAbs, by rw [ea, em]; rfl, rfl, rfl, rfl⟩, ?_⟩
    rintro b σ H' ⟨a, b', rfl, rfl, rfl, hab⟩
    walk_at "rd"
    refine tifn (fun hb => ?_) (fun hb => ?_)
    · have hb1 : b ≠ 0 := fun z => hb (by rw [z]; rfl)
      have hb0 : 0 < (b : Int) := by omega
      refine ⟨fun σ' H'' => σ' = [some (.int n), some (.int m), some (.int (b : Int)), some (.int ((a % b : Nat) : Int))] ∧ H'' = H', ?_, ?_⟩
      · rintro σ' H'' ⟨rfl, rfl⟩
        refine ⟨a % b, Nat.mod_lt _ (by omega), b, a % b, rfl, rfl, rfl, ?_⟩
        rw [← hab, Nat.gcd_comm a b, Nat.gcd_rec b a, Nat.gcd_comm]
      · refine ⟨V.int (b : Int), rfl, V.int (a : Int), rfl, Or.inl ⟨_, rfl, V.int (b : Int), rfl, _, _, rfl, rfl, hb0, _, _, rfl, ?_⟩⟩
        rw [Int.natCast_emod]
        exact ⟨rfl, rfl⟩
    · have hb0 : b = 0 := by
        have := V.int.inj hb
        omega
      subst hb0
      rw [Nat.gcd_zero_right] at hab
      subst hab
      walk_at "rd"
      refine tif (fun hgt => ?_) (fun hle => ?_)
      · obtain ⟨e1, e2⟩ := fr_pos_f (n := n) (show 0 < m from hgt)
        walk_at "rd"
        rw [e1, e2]
        exact fin
      · obtain ⟨e1, e2⟩ := fr_neg2 (n := n) (show m < 0 by omega)
        walk_at "rd"
        rw [e1, e2]
        exact fin
/-- _law_lowest, the second number below 0 or above -/
def spLowY (K : PySem.W.Frag) : Sp := fun vs H Q _ => ∃ n m : Int, vs = [.int n, .int m] ∧ m ≠ 0 ∧ ∀ v H', Same H H' → FrT K H' v (Rat.divInt n m) → Q v H'
theorem d__law_lowestY (W : FunIn K mg "_law_lowest" s__law_lowest) (T : Blt mg) (sy : Sys base) (hP : P.given.tree = none) : Df P w K mg base "_law_lowest" 33 ["n", "m"] (spLowY K) := by
  obtain ⟨f, fd, F, hm⟩ := W
  refine ⟨f, fd, F.ok sc__law_lowest (fun vs H Q E h => ?_) (fun cdv A outer s H vs Q E hr h => ?_), hm, F.kp, F.binds fun _ _ _ _ _ _ us hl => match us, hl with | [_, _], _ => rfl⟩
  · obtain ⟨n, m, rfl, _⟩ := h
    rfl
  · obtain ⟨n, m, rfl, hm0, q⟩ := h
    have nd := sc__law_lowest.nd
    have hg : ((n.natAbs.gcd m.natAbs : Nat) : Int) ≠ 0 := by
      have := Nat.gcd_pos_of_pos_right n.natAbs (show 0 < m.natAbs by omega)
      omega
    have fin : ∀ p, H p = none → Q (.ref p) (upd H p (.tup [.int (Rat.divInt n m).num, .int (Rat.divInt n m).den])) := fun p hp => q _ _ (same_new hp) ⟨p, rfl, SqT.of upd_same⟩
    have c1 : ∀ i : Int, CDivY i ((n.natAbs.gcd m.natAbs : Nat) : Int) := fun i => hg
    have c2 := c1 n
    have c3 := c1 m
    have ea : (if n < 0 then -n else n) = (n.natAbs : Int) := by split <;> omega
    have em : (if m < 0 then -m else m) = (m.natAbs : Int) := by split <;> omega
    refine ⟨_, (pss_cons (ps_par (i := 2) (j := 3) (by rfl) nd rfl rfl (by decide) rfl rfl (pa_cons (pe_callB call_abs (by rfl) T.n_abs (by decide +kernel) (pa_cons (pv 0) pa_nil)) (pa_cons (pe_callB call_abs (by rfl) T.n_abs (by decide +kernel) (pa_cons (pv 1) pa_nil)) pa_nil)) (by rfl))
        (pss_cons (ps_while PassesOwn.never (pt_cmpR op_ne (pv 3) pe_int (nomark _)) (pss_one (ps_par (i := 2) (j := 3) (by rfl) nd rfl rfl (by decide) rfl rfl (pa_cons (pv 3) (pa_cons (pe_op op_mod (pe_callTy call_int1 (by rfl) T.n_int (by decide +kernel) (pa_cons (pv 2) pa_nil)) (pv 3)) pa_nil)) (by rfl))))
        (pss_one (ps_ret (pe_ifExp (pt_cmpR op_gt (pv 1) pe_int (nomark _)) (pe_tup (pa_cons (pe_op (op_fdivY sy (hr.mono (by decide)) hP ⟨_, _, rfl, rfl, rfl, rfl, rfl⟩) (pv 0) (pv 2)) (pa_cons (pe_op (op_fdivY sy (hr.mono (by decide)) hP ⟨_, _, rfl, rfl, rfl, rfl, rfl⟩) (pv 1) (pv 2)) pa_nil))) (pe_tup (pa_cons (pe_op op_sub pe_int (pe_op (op_fdivY sy (hr.mono (by decide)) hP ⟨_, _, rfl, rfl, rfl, rfl, rfl⟩) (pv 0) (pv 2))) (pa_cons (pe_op op_sub pe_int (pe_op (op_fdivY sy (hr.mono (by decide)) hP ⟨_, _, rfl, rfl, rfl, rfl, rfl⟩) (pv 1) (pv 2))) pa_nil)))))))), ?_⟩
    walk_at "rd"
    refine ⟨fun k σ H' => ∃ a b : Nat, σ = [some (.int n), some (.int m), some (.int (a : Int)), some (.int (b : Int))] ∧ H' = H ∧ k = b ∧ a.gcd b = n.natAbs.gcd m.natAbs, ⟨m.natAbs, n.natAbs, m.natAbs, by rw [ea, em]; rfl, rfl, rfl, rfl⟩, ?_⟩
    rintro b σ H' ⟨a, b', rfl, rfl, rfl, hab⟩
    walk_at "rd"
    refine tifn (fun hb => ?_) (fun hb => ?_)
    · have hb1 : b ≠ 0 := fun z => hb (by rw [z]; rfl)
      have hb0 : 0 < (b : Int) := by omega
      refine ⟨fun σ' H'' => σ' = [some (.int n), some (.int m), some (.int (b : Int)), some (.int ((a % b : Nat) : Int))] ∧ H'' = H', ?_, ?_⟩
      · rintro σ' H'' ⟨rfl, rfl⟩
        refine ⟨a % b, Nat.mod_lt _ (by omega), b, a % b, rfl, rfl, rfl, ?_⟩
        rw [← hab, Nat.gcd_comm a b, Nat.gcd_rec b a, Nat.gcd_comm]
      · refine ⟨V.int (b : Int), rfl, V.int (a : Int), rfl, Or.inl ⟨_, rfl, V.int (b : Int), rfl, _, _, rfl, rfl, hb0, _, _, rfl, ?_⟩⟩
        rw [Int.natCast_emod]
        exact ⟨rfl, rfl⟩
    · have hb0 : b = 0 := by
        have := V.int.inj hb
        omega
      subst hb0
      rw [Nat.gcd_zero_right] at hab
      subst hab
      walk_at "rd"
      refine tif (fun hgt => ?_) (fun hle => ?_)
      · obtain ⟨e1, e2⟩ := fr_pos_f (n := n) (show 0 < m from hgt)
        walk_at "rd"
        rw [e1, e2]
        exact fin
      · obtain ⟨e1, e2⟩ := fr_neg2 (n := n) (show m < 0 by omega)
        walk_at "rd"
        rw [e1, e2]
        exact fin
/-- _law_over -/
def spQ2 (K : PySem.W.Frag) : Sp := fun vs H Q _ => ∃ (x y : V) (p q : Rat), vs = [x, y] ∧ FrT K H x p ∧ FrT K H y q ∧ q ≠ 0 ∧ Qz 900000 p ∧ Qz 900000 q ∧ ∀ v H', Same H H' → FrT K H' v (p / q) → Q v H'
theorem sc__law_over : FnScope ["one", "two"] ["one", "two"] (defScope s__law_over) := ⟨rfl, rfl, rfl, by decide +kernel, rfl, by decide +kernel, by decide +kernel⟩
theorem d__law_over (W : FunIn K mg "_law_over" s__law_over) (D_law_lowest : Df P w K mg base "_law_lowest" 33 ["n", "m"] (spLowN K)) : Df P w K mg base "_law_over" 34 ["one", "two"] (spQ2 K) := by
  obtain ⟨f, fd, F, hm⟩ := W
  refine ⟨f, fd, F.ok sc__law_over (fun vs H Q E h => ?_) (fun cdv A outer s H vs Q E hr h => ?_), hm, F.kp, F.binds fun _ _ _ _ _ _ us hl => match us, hl with | [_, _], _ => rfl⟩
  · obtain ⟨x, y, p, q, rfl, _⟩ := h
    rfl
  · obtain ⟨x, y, p, r, rfl, ⟨a, rfl, ha⟩, ⟨b, rfl, hb⟩, hr0, zp, zr, q⟩ := h
    have b1 := zp.n
    have b2 := zp.dd
    have b3 := zr.n
    have b4 := zr.dd
    have hd : (p.den : Int) * r.num ≠ 0 := Int.mul_ne_zero (by have := p.den_nz; omega) (fun z => hr0 (Rat.num_eq_zero.mp z))
    refine ⟨_, (pss_one (ps_ret (pe_d D_law_lowest (hr.mono (by decide)) rfl (pa_cons (pe_op op_mulX (pe_ix ix_tup (pv 0) pe_int (fun _ _ => rfl)) (pe_ix ix_tup (pv 1) pe_int (fun _ _ => rfl))) (pa_cons (pe_op op_mulX (pe_ix ix_tup (pv 0) pe_int (fun _ _ => rfl)) (pe_ix ix_tup (pv 1) pe_int (fun _ _ => rfl))) pa_nil))))), ?_⟩
    walk_at "rd"
    rw [fr_div]
    exact q
/-- _law_is_whole -/
def spLWhole (K : PySem.W.Frag) : Sp := fun vs H Q _ => ∃ i : Int, vs = [.int i] ∧ Q (.bl true) H
/-- _law_is_fraction -/
def spLIsFr (K : PySem.W.Frag) : Sp := fun vs H Q _ => ∃ (x : V) (q : Rat), vs = [x] ∧ FrT K H x q ∧ ∀ H', Same H H' → Q (.bl true) H'
/-- _law_later, of a row that is not nought -/
def spLater (K : PySem.W.Frag) : Sp := fun vs H Q _ => ∃ (x : V) (qs : List Rat) (k : Nat), vs = [x, .int (k : Int)] ∧ RwT K H x qs ∧ qs ≠ [] ∧ qs.length < 900 ∧ k ≤ 10 ∧ ∀ v H', Same H H' → RwT K H' v (List.replicate k 0 ++ qs) → Q v H'
/-- cleared, of a row over one divisor -/
def spClearD (K : PySem.W.Frag) : Sp := fun vs H Q _ => ∃ (x : V) (qs : List Rat) (d e : Nat), vs = [x] ∧ RwT K H x qs ∧ Cd d e qs ∧ d < 8990 ∧ e ≤ 50000 ∧ qs.length < 1000 ∧
  ∀ (t l : Addr) (ns : List Int) (D : Int) (H' : Hp), Same H H' → SqT K H' t [.ref l, .int D] → H' l = some (.lst (ns.map V.int)) → ns.length = qs.length → 0 < D → Bz (d + 1) D →
    (∀ n ∈ ns, Bz (e + 1) n) → ns.map (fun (n : Int) => (n : Rat)) = qs.map ((D : Rat) * ·) → Q (.ref t) H'
theorem d_clearedD (W : FunIn K mg "cleared" s_cleared) (T : Blt mg) (gl : mg "lcm" = some (.builtin "math.lcm")) : Df P w K mg base "cleared" 33 ["row"] (spClearD K) := by
  obtain ⟨f, fd, F, hm⟩ := W
  refine ⟨f, fd, F.ok sc_cleared (fun vs H Q E h => ?_) (fun cdv A outer s H vs Q E hr h => ?_), hm, F.kp, F.binds fun _ _ _ _ _ _ us hl => match us, hl with | [_], _ => rfl⟩
  · obtain ⟨x, qs, d, e, rfl, _⟩ := h
    rfl
  · obtain ⟨x, qs, d, e, rfl, ⟨a, us, rfl, ha, hA⟩, ⟨E, hE0, hEd, hE⟩, hd, he, hlen, q⟩ := h
    have nd := sc_cleared.nd
    have hL := hA.length
    have hdv : ∀ c ∈ qs, c.den ∣ E := fun c hc => let ⟨n, h1, _⟩ := hE c hc; den_dvd h1
    have hEz : ∀ D : Nat, 0 < D → D ∣ E → Bz (d + 1) (D : Int) := fun D _ h => by
      unfold Bz
      rw [Int.natAbs_natCast, Nat.pow_succ]
      have := Nat.le_of_dvd hE0 h
      have := Nat.two_pow_pos d
      omega
    refine ⟨_, (pss_cons (ps_set (i := 1) nd rfl (Or.inr rfl) pe_int)
        (pss_cons (ps_for PassesOwn.never rfl (pi_tup (pv 0)) (pg_name (i := 2) nd rfl (Or.inl rfl) (Or.inr rfl)) (pss_one (ps_set (i := 1) nd rfl (Or.inr rfl) (pe_callBfun cr_lcm (by rfl) gl (pa_cons (pv 1) (pa_cons (pe_ix ix_tup (pv 2) pe_int (fun _ _ => rfl)) pa_nil))))))
        (pss_one (ps_ret (pe_tup (pa_cons (pe_lc (own := [("number", 3), ("part", 4)]) rfl nd (pi_tup (pv 0)) (blkOk_by (own := [("number", 3), ("part", 4)]) (N := ["row", "under", "fraction", "number", "part"]) (sc := defScope s_cleared) (by decide +kernel)) (fun _ _ _ _ _ => (pg_pair (K := K) (i := 3) (j := 4) rfl rfl nd rfl rfl rfl rfl)) (fun _ _ _ _ _ => pts_nil) (fun _ _ _ _ _ => (pe_op op_mulX (pv 3) (pe_op op_fdivX (pv 1) (pv 4))))) (pa_cons (pv 1) pa_nil))))))), ?_⟩
    refine ⟨V.ref a, rfl, a, rfl, ⟨us, ha⟩, for_tup (K := K) (a := a) (xs := us) (fun i σ H' => ∃ (D : Nat) (o : Option V), σ = [some (.ref a), some (.int (D : Int)), o, none, none] ∧ H' = H ∧ 0 < D ∧ D ∣ E ∧ ∀ j, j < i → ∀ c, qs[j]? = some c → c.den ∣ D) ⟨1, none, rfl, rfl, by decide, Nat.one_dvd _, fun j hj => absurd hj (Nat.not_lt_zero _)⟩ (fun i σ H' _ ⟨_, _, _, e, _⟩ => by rw [e]; exact ha) ?_ ?_⟩
    · rintro i u σ H' hu ⟨D, o, rfl, rfl, hD0, hDE, hdvd⟩
      obtain ⟨c, hc, ⟨e', rfl, he'⟩⟩ := hA.get hu
      have hcE := hdv c (List.mem_of_getElem? hc)
      have z1 : Bz 9000 (D : Int) := (hEz D hD0 hDE).mono (by omega)
      have z2 : Bz 9000 (c.den : Int) := (hEz c.den c.den_pos hcE).mono (by omega)
      refine ⟨_, rfl, ?_⟩
      walk_at "rd"
      refine ⟨Nat.lcm_pos hD0 c.den_pos, Nat.lcm_dvd hDE hcE, fun j hj c' hc' => ?_⟩
      · rcases Nat.lt_or_eq_of_le (Nat.le_of_lt_succ hj) with hj | rfl
        · exact Nat.dvd_trans (hdvd j hj c' hc') (Nat.dvd_lcm_left _ _)
        · rw [hc] at hc'
          cases hc'
          exact Nat.dvd_lcm_right _ _
    · rintro σ H' ⟨D, o, rfl, rfl, hD0, hDE, hdvd⟩
      rw [hL] at hdvd
      have hdi : ∀ c ∈ qs, (c.den : Int) ∣ (D : Int) := fun c hc => by
        obtain ⟨j, hj⟩ := List.mem_iff_getElem?.mp hc
        exact Int.ofNat_dvd.mpr (hdvd j (List.getElem?_eq_some_iff.mp hj).1 c hj)
      have hDz := hEz D hD0 hDE
      have hbz : ∀ c ∈ qs, Bz (e + 1) (c.num * (D : Int).fdiv (c.den : Int)) := fun c hc => by
        obtain ⟨n, h1, h2⟩ := hE c hc
        have h3 := mul_den (hdv c hc)
        rw [h1] at h3
        have h4 : n = c.num * ((E / c.den : Nat) : Int) := by exact_mod_cast h3
        obtain ⟨k, hk⟩ := hDE
        have hcd : c.den ∣ D := Int.ofNat_dvd.mp (hdi c hc)
        have h5 : (D : Int).fdiv (c.den : Int) = ((D / c.den : Nat) : Int) := by
          rw [Int.fdiv_eq_ediv_of_nonneg _ (by omega)]
          rfl
        have hk0 : 0 < k := Nat.pos_of_ne_zero fun z => by rw [z, Nat.mul_zero] at hk; omega
        have h6 : D / c.den ≤ E / c.den := Nat.div_le_div_right (by rw [hk]; exact Nat.le_mul_of_pos_right _ hk0)
        unfold Bz
        rw [h5, Int.natAbs_mul, Int.natAbs_natCast, Nat.pow_succ]
        have h7 : c.num.natAbs * (D / c.den) ≤ n.natAbs := by
          rw [h4, Int.natAbs_mul, Int.natAbs_natCast]
          exact Nat.mul_le_mul_left _ h6
        have := Nat.two_pow_pos e
        omega
      refine ⟨V.ref a, rfl, a, rfl, ⟨us, ha⟩, fun l hl => lc_map (walk_tup (K := K) (a := a) (xs := us)) hl (by rw [sizeLine_eq]; omega) (fun i _ v => ∃ c, qs[i]? = some c ∧ v = .int (c.num * (D : Int).fdiv (c.den : Int))) (fun _ _ _ _ _ h => h) (fun H1 s1 => same_seqT s1 ha) ?_ ?_⟩
      · rintro i u H1 H2 hi s1 _ ⟨rfl, hu⟩ Fin hF
        obtain ⟨c, hc, ⟨e', rfl, he'⟩⟩ := hA.get hu
        have hcm := List.mem_of_getElem? hc
        have he1 := same_seqT s1 he'
        have c1 : CDivX (D : Int) (c.den : Int) := cdivx (by have := c.den_nz; omega) ((hEz c.den c.den_pos (hdv c hcm)).mono (by omega)) (Nat.le_refl 9000)
        have c2 : CMulX c.num ((D : Int).fdiv (c.den : Int)) := by
          have hn : Bz (e + 1) c.num := by
            obtain ⟨n, h1, h2⟩ := hE c hcm
            have h3 := mul_den (hdv c hcm)
            rw [h1] at h3
            have h4 : n = c.num * ((E / c.den : Nat) : Int) := by exact_mod_cast h3
            have h5 : 0 < E / c.den := Nat.div_pos (Nat.le_of_dvd hE0 (hdv c hcm)) c.den_pos
            unfold Bz
            rw [h4, Int.natAbs_mul, Int.natAbs_natCast] at h2
            have := Nat.le_mul_of_pos_right c.num.natAbs h5
            rw [Nat.pow_succ]
            have := Nat.two_pow_pos e
            omega
          refine cmuly (a := e + 1) (b := d + 1) hn ?_ (by omega)
          unfold Bz at *
          rw [Int.fdiv_eq_ediv_of_nonneg _ (by omega)]
          exact Nat.lt_of_le_of_lt (Int.natAbs_ediv_le_natAbs _ _) hDz
        walk_at "rd"
        exact hF _ _ (Same.refl _) ⟨c, hc, rfl⟩
      · rintro H1 acc s1 hacc hlen1 hel
        have hex : acc = ((qs.map fun c => c.num * (D : Int).fdiv (c.den : Int)) : List Int).map V.int := by
          refine List.ext_getElem? fun i => ?_
          by_cases hi : i < acc.length
          · obtain ⟨c, hc, hv⟩ := hel i _ (List.getElem?_eq_getElem hi)
            rw [List.getElem?_eq_getElem hi, hv, List.getElem?_map, List.getElem?_map, hc]
            rfl
          · rw [List.getElem?_eq_none (by omega), List.getElem?_eq_none (by simp only [List.length_map]; omega)]
        walk_at "rd"
        intro t ht
        have s2 := same_new (o := .tup [.ref l, .int (D : Int)]) ht
        refine q t l (qs.map fun c => c.num * (D : Int).fdiv (c.den : Int)) D _ (s1.trans s2) (SqT.of upd_same) (by rw [← hex]; exact s2 _ _ hacc) (List.length_map _) (by omega) hDz (fun n hn => ?_) ?_
        · obtain ⟨c, hc, rfl⟩ := List.mem_map.mp hn
          exact hbz c hc
        · rw [List.map_map]
          refine List.map_congr_left fun c hc => ?_
          exact clear_eq (hdi c hc)
end
end Vx
namespace Vx
/-! sums of sequences -/
def sm (g : Nat → Rat) : Nat → Rat
  | 0 => 0
  | n + 1 => sm g n + g n
theorem sm_congr {f g : Nat → Rat} : ∀ n, (∀ i, i < n → f i = g i) → sm f n = sm g n
  | 0, _ => rfl
  | n + 1, h => by
    show sm f n + f n = sm g n + g n
    rw [sm_congr n fun i hi => h i (by omega), h n (by omega)]
theorem sm_add (f g : Nat → Rat) : ∀ n, sm (fun i => f i + g i) n = sm f n + sm g n
  | 0 => by show (0 : Rat) = 0 + 0; grind
  | n + 1 => by
    show sm (fun i => f i + g i) n + (f n + g n) = (sm f n + f n) + (sm g n + g n)
    rw [sm_add f g n]
    grind
theorem sm_mul (c : Rat) (f : Nat → Rat) : ∀ n, sm (fun i => c * f i) n = c * sm f n
  | 0 => by show (0 : Rat) = c * 0; grind
  | n + 1 => by
    show sm (fun i => c * f i) n + c * f n = c * (sm f n + f n)
    rw [sm_mul c f n]
    grind
theorem sm_zero {f : Nat → Rat} (n : Nat) (h : ∀ i, i < n → f i = 0) : sm f n = 0 := by
  induction n with
  | zero => rfl
  | succ n ih =>
    show sm f n + f n = 0
    rw [ih fun i hi => h i (by omega), h n (by omega)]
    grind
theorem sm_front (g : Nat → Rat) : ∀ n, sm g (n + 1) = g 0 + sm (fun i => g (i + 1)) n
  | 0 => by show (0 : Rat) + g 0 = g 0 + 0; grind
  | n + 1 => by
    show sm g (n + 1) + g (n + 1) = g 0 + (sm (fun i => g (i + 1)) n + g (n + 1))
    rw [sm_front g n]
    grind
theorem sm_rev (g : Nat → Rat) : ∀ n, sm (fun i => g (n - 1 - i)) n = sm g n
  | 0 => rfl
  | n + 1 => by
    rw [sm_front]
    show g n + sm (fun i => g (n - (i + 1))) n = sm g n + g n
    rw [sm_congr (g := fun i => g (n - 1 - i)) n fun i _ => by rw [show n - (i + 1) = n - 1 - i by omega], sm_rev g n]
    grind
theorem sm_le {f g : Nat → Rat} : ∀ n, (∀ i, i < n → f i ≤ g i) → sm f n ≤ sm g n
  | 0, _ => Rat.le_refl
  | n + 1, h => by
    show sm f n + f n ≤ sm g n + g n
    have := sm_le n fun i hi => h i (by omega)
    have := h n (by omega)
    grind
theorem sm_ext {f : Nat → Rat} {n : Nat} : ∀ m, n ≤ m → (∀ i, n ≤ i → f i = 0) → sm f m = sm f n
  | 0, hm, _ => by rw [show n = 0 by omega]
  | m + 1, hm, h => by
    by_cases e : n = m + 1
    · rw [e]
    · show sm f m + f m = _
      rw [sm_ext m (by omega) h, h m (by omega)]
      grind
theorem sq0 (x : Rat) : 0 ≤ x * x := by
  rcases (by grind : x ≤ 0 ∨ 0 ≤ x) with h | h
  · have := Rat.mul_nonneg (show 0 ≤ -x by grind) (show 0 ≤ -x by grind)
    grind
  · exact Rat.mul_nonneg h h
theorem mul_le {a b c : Rat} (hc : 0 ≤ c) (h : a ≤ b) : c * a ≤ c * b := Rat.mul_le_mul_of_nonneg_left h hc
theorem sq_pos {x : Rat} (h : x ≠ 0) : 0 < x * x := by
  rcases (by grind : x < 0 ∨ 0 < x) with h | h
  · have := Rat.mul_pos (show 0 < -x by grind) (show 0 < -x by grind)
    grind
  · exact Rat.mul_pos h h
/-! sums of squares -/
def SS (z : Nat → Rat) (n : Nat) : Rat := sm (fun i => z i * z i) n
theorem ss_succ (z : Nat → Rat) (n : Nat) : SS z (n + 1) = SS z n + z n * z n := rfl
theorem ss_congr {z w : Nat → Rat} (n : Nat) (h : ∀ i, i < n → z i = w i) : SS z n = SS w n := sm_congr n fun i hi => by rw [h i hi]
theorem ss0 (z : Nat → Rat) : ∀ n, 0 ≤ SS z n
  | 0 => Rat.le_refl
  | n + 1 => by
    rw [ss_succ]
    have := ss0 z n
    have := sq0 (z n)
    grind
theorem ss_mono {z : Nat → Rat} {n : Nat} : ∀ m, n ≤ m → SS z n ≤ SS z m
  | 0, h => by rw [show n = 0 by omega]; exact Rat.le_refl
  | m + 1, h => by
    by_cases e : n = m + 1
    · rw [e]
      exact Rat.le_refl
    · rw [ss_succ]
      have := ss_mono (z := z) m (show n ≤ m by omega)
      have := sq0 (z m)
      grind
theorem ss_le {z x w : Nat → Rat} {a b : Rat} (h : ∀ m, z m * z m ≤ a * (x m * x m) + b * (w m * w m)) : ∀ n, SS z n ≤ a * SS x n + b * SS w n
  | 0 => by show (0 : Rat) ≤ a * 0 + b * 0; grind
  | n + 1 => by
    rw [ss_succ, ss_succ, ss_succ]
    have := ss_le h n
    have := h n
    grind
theorem ss_tail {z w : Nat → Rat} {n : Nat} (h : ∀ m, n ≤ m → z m = w m) : ∀ k, SS z (n + k) - SS z n = SS w (n + k) - SS w n
  | 0 => by rw [Nat.add_zero]; grind
  | k + 1 => by
    rw [← Nat.add_assoc, ss_succ, ss_succ, h (n + k) (by omega)]
    have := ss_tail h k
    grind
/-- later by one beat -/
def sh (z : Nat → Rat) : Nat → Rat
  | 0 => 0
  | m + 1 => z m
theorem ss_sh (z : Nat → Rat) : ∀ n, SS (sh z) (n + 1) = SS z n
  | 0 => by show (0 : Rat) + 0 * 0 = 0; grind
  | n + 1 => by rw [ss_succ, ss_sh z n]; rfl
theorem ss_sh_le (z : Nat → Rat) (n : Nat) : SS (sh z) n ≤ SS z n := by
  cases n with
  | zero => exact Rat.le_refl
  | succ n =>
    rw [ss_sh]
    exact ss_mono _ (by omega)
/-! folded products -/
def cf (f y : Nat → Rat) (m : Nat) : Rat := sm (fun i => f i * y (m - i)) (m + 1)
theorem cf_comm (f y : Nat → Rat) (m : Nat) : cf f y m = cf y f m := by
  unfold cf
  rw [← sm_rev]
  refine sm_congr _ fun i hi => ?_
  rw [show m + 1 - 1 - i = m - i by omega, show m - (m - i) = i by omega]
  grind
theorem cf_sh (f y : Nat → Rat) (m : Nat) : cf (sh f) y m = sh (cf f y) m := by
  cases m with
  | zero => show (0 : Rat) + 0 * y 0 = 0; grind
  | succ m =>
    unfold cf
    rw [sm_front]
    show 0 * y _ + _ = sm (fun i => f i * y (m - i)) (m + 1)
    rw [sm_congr (g := fun i => f i * y (m - i)) (m + 1) fun i _ => by
      show f i * y (m + 1 - (i + 1)) = _
      rw [show m + 1 - (i + 1) = m - i by omega]]
    grind
theorem sh_congr {z w : Nat → Rat} {m : Nat} (h : ∀ i, i < m → z i = w i) : sh z m = sh w m := by
  cases m with
  | zero => rfl
  | succ m => exact h m (by omega)
theorem cf_congr {f g y z : Nat → Rat} {m : Nat} (h : ∀ i, i ≤ m → f i = g i) (h2 : ∀ i, i ≤ m → y i = z i) : cf f y m = cf g z m := sm_congr _ fun i hi => by rw [h i (by omega), h2 (m - i) (by omega)]
theorem cf_lin {f g e : Nat → Rat} {c d : Rat} (y : Nat → Rat) {m : Nat} (h : ∀ i, e i = c * f i + d * g i) : cf e y m = c * cf f y m + d * cf g y m := by
  unfold cf
  rw [← sm_mul, ← sm_mul, ← sm_add]
  refine sm_congr _ fun i _ => ?_
  rw [h i]
  grind
theorem cf_linR {f y z e : Nat → Rat} {c d : Rat} {m : Nat} (h : ∀ i, e i = c * y i + d * z i) : cf f e m = c * cf f y m + d * cf f z m := by
  rw [cf_comm, cf_lin f h, cf_comm y, cf_comm z]
theorem cf_shR (f y : Nat → Rat) (m : Nat) : cf f (sh y) m = sh (cf f y) m := by
  rw [cf_comm, cf_sh]
  exact sh_congr fun i _ => cf_comm _ _ _
def dl : Nat → Rat
  | 0 => 1
  | _ + 1 => 0
theorem cf_dl (y : Nat → Rat) (m : Nat) : cf dl y m = y m := by
  unfold cf
  rw [sm_front, sm_zero m fun i _ => by show (0 : Rat) * _ = 0; grind]
  show 1 * y (m - 0) + 0 = _
  rw [Nat.sub_zero]
  grind
theorem cf_dlR (f : Nat → Rat) (m : Nat) : cf f dl m = f m := by rw [cf_comm, cf_dl]
theorem at0_cons (c : Rat) (p : List Rat) (i : Nat) : at0 (c :: p) i = c * dl i + 1 * sh (at0 p) i := by
  cases i with
  | zero => show c = c * 1 + 1 * 0; grind
  | succ i => show at0 p i = c * 0 + 1 * at0 p i; grind
theorem cf_cons (c : Rat) (p : List Rat) (y : Nat → Rat) (m : Nat) : cf (at0 (c :: p)) y m = c * y m + sh (cf (at0 p) y) m := by
  rw [cf_lin y (at0_cons c p), cf_dl, cf_sh]
  grind
theorem cf_nil (y : Nat → Rat) (m : Nat) : cf (at0 []) y m = 0 := sm_zero _ fun i _ => by
  rw [at0_out (Nat.zero_le _)]
  grind
/-- a row makes no more than so much of anything -/
theorem fir (p : List Rat) : ∃ B : Rat, 0 ≤ B ∧ ∀ z n, SS (cf (at0 p) z) n ≤ B * SS z n := by
  induction p with
  | nil =>
    refine ⟨0, Rat.le_refl, fun z n => ?_⟩
    have : SS (cf (at0 []) z) n = 0 := sm_zero _ fun i _ => by rw [cf_nil]; grind
    rw [this]
    grind
  | cons c p ih =>
    obtain ⟨B, h0, h⟩ := ih
    refine ⟨2 * (c * c) + 2 * B, by have := sq0 c; grind, fun z n => ?_⟩
    have h1 := ss_le (z := cf (at0 (c :: p)) z) (x := z) (w := sh (cf (at0 p) z)) (a := 2 * (c * c)) (b := 2) (fun m => by
      rw [cf_cons]
      have := sq0 (c * z m - sh (cf (at0 p) z) m)
      grind) n
    have h2 := ss_sh_le (cf (at0 p) z) n
    have h3 := h z n
    grind
/-- 1 over the row makes no more than so much of anything -/
def Good (f : Nat → Rat) : Prop := ∃ C : Rat, 0 ≤ C ∧ ∀ y n, SS y n ≤ C * SS (cf f y) n
theorem Good.congr {f g : Nat → Rat} (h : Good f) (e : ∀ i, f i = g i) : Good g := by
  have : f = g := funext e
  rw [← this]
  exact h
theorem Good.head {f : Nat → Rat} (h : Good f) : f 0 ≠ 0 := fun z => by
  obtain ⟨C, _, h⟩ := h
  have h1 := h dl 1
  have e1 : SS dl 1 = 1 := by show (0 : Rat) + 1 * 1 = 1; grind
  have e2 : SS (cf f dl) 1 = 0 := by
    show (0 : Rat) + cf f dl 0 * cf f dl 0 = 0
    rw [cf_dlR, z]
    grind
  rw [e1, e2] at h1
  grind
/-! products -/
def mulP : List Rat → List Rat → List Rat
  | [], _ => []
  | c :: p, q => ladd (smul c q) (0 :: mulP p q)
theorem at0_ladd' : ∀ (a b : List Rat) (i : Nat), at0 (ladd a b) i = at0 a i + at0 b i
  | [], b, i => by
    show at0 b i = _
    rw [at0_out (l := []) (Nat.zero_le _)]
    grind
  | c :: a, [], i => by
    show at0 (c :: a) i = _
    rw [at0_out (l := []) (Nat.zero_le _)]
    grind
  | c :: a, d :: b, 0 => rfl
  | c :: a, d :: b, i + 1 => at0_ladd' a b i
theorem ev_mulP : ∀ (p q : List Rat) (x : Rat), ev (mulP p q) x = ev p x * ev q x
  | [], q, x => by show (0 : Rat) = 0 * _; grind
  | c :: p, q, x => by
    show ev (ladd (smul c q) (0 :: mulP p q)) x = (c + x * ev p x) * ev q x
    rw [ev_ladd]
    have e1 : ev (smul c q) x = c * ev q x := ev_scale _ _ _
    have e2 : ev (0 :: mulP p q) x = 0 + x * ev (mulP p q) x := rfl
    rw [e1, e2, ev_mulP p q x]
    grind
theorem cf_mulP : ∀ (p q : List Rat) (y : Nat → Rat) (m : Nat), cf (at0 (mulP p q)) y m = cf (at0 p) (cf (at0 q) y) m
  | [], q, y, m => by
    show cf (at0 []) y m = _
    rw [cf_nil, cf_nil]
  | c :: p, q, y, m => by
    rw [cf_cons]
    have h : ∀ i, at0 (mulP (c :: p) q) i = c * at0 q i + 1 * sh (at0 (mulP p q)) i := fun i => by
      show at0 (ladd (smul c q) (0 :: mulP p q)) i = _
      rw [at0_ladd', at0_smul]
      cases i with
      | zero => show _ + (0 : Rat) = _ + 1 * 0; grind
      | succ i => show _ + at0 (mulP p q) i = _ + 1 * at0 (mulP p q) i; grind
    rw [cf_lin y h, cf_sh, sh_congr fun i _ => cf_mulP p q y i]
    grind
theorem good_mul {p q : List Rat} : Good (at0 (mulP p q)) ↔ (Good (at0 p) ∧ Good (at0 q)) := by
  have half : ∀ p q : List Rat, Good (at0 (mulP p q)) → Good (at0 q) := by
    rintro p q ⟨C, h0, h⟩
    obtain ⟨B, b0, hB⟩ := fir p
    refine ⟨C * B, Rat.mul_nonneg h0 b0, fun y n => ?_⟩
    have h1 := h y n
    rw [ss_congr n fun i _ => cf_mulP p q y i] at h1
    have h2 := hB (cf (at0 q) y) n
    have h3 := mul_le h0 h2
    grind
  have comm : ∀ p q : List Rat, ∀ i, at0 (mulP p q) i = at0 (mulP q p) i := fun p q i => by
    have h0 := ev_nought (l := ladd (mulP p q) ((mulP q p).map ((-1 : Rat) * ·))) fun z => by
      rw [ev_ladd, ev_scale, ev_mulP, ev_mulP]
      grind
    have e : at0 (ladd (mulP p q) ((mulP q p).map ((-1 : Rat) * ·))) i = 0 := by
      by_cases hi : i < (ladd (mulP p q) ((mulP q p).map ((-1 : Rat) * ·))).length
      · exact h0 _ (at0_mem hi)
      · exact at0_out (by omega)
    rw [at0_ladd'] at e
    have e2 : at0 ((mulP q p).map ((-1 : Rat) * ·)) i = -1 * at0 (mulP q p) i := at0_smul _ _ _
    rw [e2] at e
    grind
  constructor
  · intro h
    exact ⟨half q p (h.congr (comm p q)), half p q h⟩
  · rintro ⟨⟨C, h0, h⟩, ⟨D, d0, hD⟩⟩
    refine ⟨D * C, Rat.mul_nonneg d0 h0, fun y n => ?_⟩
    rw [ss_congr n fun i _ => cf_mulP p q y i]
    have h1 := hD y n
    have h2 := mul_le d0 (h (cf (at0 q) y) n)
    grind
/-- rows of the worths of a product -/
theorem good_prod {p q r : List Rat} (h : ∀ x, ev r x = ev p x * ev q x) : Good (at0 r) ↔ (Good (at0 p) ∧ Good (at0 q)) := by
  rw [← good_mul]
  have e : ∀ i, at0 r i = at0 (mulP p q) i := fun i => by
    have h0 := ev_nought (l := ladd r ((mulP p q).map ((-1 : Rat) * ·))) fun z => by
      rw [ev_ladd, ev_scale, ev_mulP, h]
      grind
    have e : at0 (ladd r ((mulP p q).map ((-1 : Rat) * ·))) i = 0 := by
      by_cases hi : i < (ladd r ((mulP p q).map ((-1 : Rat) * ·))).length
      · exact h0 _ (at0_mem hi)
      · exact at0_out (by omega)
    rw [at0_ladd'] at e
    have e2 : at0 ((mulP p q).map ((-1 : Rat) * ·)) i = -1 * at0 (mulP p q) i := at0_smul _ _ _
    rw [e2] at e
    grind
  exact ⟨fun g => g.congr e, fun g => g.congr fun i => (e i).symm⟩
/-! back to front -/
def rv (n : Nat) (f : Nat → Rat) (i : Nat) : Rat := if i ≤ n then f (n - i) else 0
/-- nothing behind -/
def Sp0 (n : Nat) (f : Nat → Rat) : Prop := ∀ i, n < i → f i = 0
theorem rv_sp (n : Nat) (f : Nat → Rat) : Sp0 n (rv n f) := fun i hi => if_neg (by omega)
theorem auto_rv {n : Nat} {f : Nat → Rat} (hf : Sp0 n f) (j K : Nat) (hK : n < K) : sm (fun m => f (m + j) * f m) K = sm (fun m => rv n f (m + j) * rv n f m) K := by
  by_cases hj : j ≤ n
  · have e1 : sm (fun m => f (m + j) * f m) K = sm (fun m => f (m + j) * f m) (n - j + 1) := sm_ext K (by omega) fun i hi => by
      show f (i + j) * f i = 0
      rw [hf (i + j) (by omega)]
      grind
    have e2 : sm (fun m => rv n f (m + j) * rv n f m) K = sm (fun m => rv n f (m + j) * rv n f m) (n - j + 1) := sm_ext K (by omega) fun i hi => by
      show rv n f (i + j) * rv n f i = 0
      rw [rv_sp n f (i + j) (by omega)]
      grind
    rw [e1, e2, ← sm_rev]
    refine sm_congr _ fun i hi => ?_
    unfold rv
    rw [if_pos (by omega), if_pos (by omega), show n - j + 1 - 1 - i + j = n - i by omega, show n - j + 1 - 1 - i = n - (i + j) by omega]
    grind
  · rw [sm_zero K fun i _ => by
      show f (i + j) * f i = 0
      rw [hf (i + j) (by omega)]
      grind, sm_zero K fun i _ => by
      show rv n f (i + j) * rv n f i = 0
      rw [rv_sp n f (i + j) (by omega)]
      grind]
def tr (N : Nat) (y : Nat → Rat) (m : Nat) : Rat := if m < N then y m else 0
theorem tr_succ (N : Nat) (y : Nat → Rat) (i : Nat) : tr (N + 1) y i = y 0 * dl i + 1 * sh (tr N fun m => y (m + 1)) i := by
  unfold tr
  cases i with
  | zero =>
    rw [if_pos (by omega)]
    show y 0 = y 0 * 1 + 1 * 0
    grind
  | succ i =>
    show _ = y 0 * 0 + 1 * (if i < N then y (i + 1) else 0)
    by_cases h : i < N
    · rw [if_pos (by omega), if_pos h]
      grind
    · rw [if_neg (by omega), if_neg h]
      grind
theorem cf_tr (f : Nat → Rat) (N : Nat) (y : Nat → Rat) (m : Nat) : cf f (tr (N + 1) y) m = y 0 * f m + 1 * sh (cf f (tr N fun m => y (m + 1))) m := by
  rw [cf_linR (tr_succ N y), cf_dlR, cf_shR]
theorem ip_sh (f w : Nat → Rat) (j : Nat) : ∀ K, sm (fun m => f (m + j) * sh w m) (K + 1) = sm (fun m => f (m + (j + 1)) * w m) K := fun K => by
  rw [sm_front]
  show f (0 + j) * 0 + sm (fun i => f (i + 1 + j) * w i) K = _
  rw [sm_congr (g := fun m => f (m + (j + 1)) * w m) K fun i _ => by
    show f (i + 1 + j) * w i = f (i + (j + 1)) * w i
    rw [show i + 1 + j = i + (j + 1) by omega]]
  grind
theorem tr_zero (f y : Nat → Rat) (m : Nat) : cf f (tr 0 y) m = 0 := sm_zero _ fun i _ => by
  show f i * (if m - i < 0 then _ else 0) = 0
  rw [if_neg (by omega)]
  grind
theorem ip_rv {n : Nat} {f : Nat → Rat} (hf : Sp0 n f) : ∀ (N : Nat) (y : Nat → Rat) (j K : Nat), N + n ≤ K → 0 < K → sm (fun m => f (m + j) * cf f (tr N y) m) K = sm (fun m => rv n f (m + j) * cf (rv n f) (tr N y) m) K
  | 0, y, j, K, _, _ => by
    rw [sm_zero K fun i _ => by
      show f (i + j) * cf f (tr 0 y) i = 0
      rw [tr_zero]
      grind, sm_zero K fun i _ => by
      show rv n f (i + j) * cf (rv n f) (tr 0 y) i = 0
      rw [tr_zero]
      grind]
  | N + 1, y, j, K, hK, h0 => by
    have key : ∀ g : Nat → Rat, sm (fun m => g (m + j) * cf g (tr (N + 1) y) m) K = y 0 * sm (fun m => g (m + j) * g m) K + sm (fun m => g (m + j) * sh (cf g (tr N fun m => y (m + 1))) m) K := fun g => by
      rw [← sm_mul, ← sm_add]
      refine sm_congr _ fun i _ => ?_
      rw [cf_tr]
      grind
    rw [key f, key (rv n f), auto_rv hf j K (by omega)]
    obtain ⟨K', rfl⟩ : ∃ K', K = K' + 1 := ⟨K - 1, by omega⟩
    rw [ip_sh, ip_sh]
    by_cases hK0 : 0 < K'
    · rw [ip_rv hf N _ (j + 1) K' (by omega) hK0]
    · have : K' = 0 := by omega
      subst this
      rfl
theorem ss_rv {n : Nat} {f : Nat → Rat} (hf : Sp0 n f) : ∀ (N : Nat) (y : Nat → Rat) (K : Nat), N + n ≤ K → SS (cf f (tr N y)) K = SS (cf (rv n f) (tr N y)) K
  | 0, y, K, _ => ss_congr K fun i _ => by rw [tr_zero, tr_zero]
  | N + 1, y, K, hK => by
    obtain ⟨K', rfl⟩ : ∃ K', K = K' + 1 := ⟨K - 1, by omega⟩
    have key : ∀ g : Nat → Rat, SS (cf g (tr (N + 1) y)) (K' + 1) = y 0 * y 0 * sm (fun m => g (m + 0) * g m) (K' + 1) + (2 * y 0 * sm (fun m => g (m + (0 + 1)) * cf g (tr N fun m => y (m + 1)) m) K' + SS (cf g (tr N fun m => y (m + 1))) K') := fun g => by
      rw [← ss_sh (cf g (tr N fun m => y (m + 1))), ← ip_sh]
      unfold SS
      rw [← sm_mul, ← sm_mul, ← sm_add, ← sm_add]
      refine sm_congr _ fun i _ => ?_
      rw [cf_tr]
      show _ = y 0 * y 0 * (g i * g i) + (2 * y 0 * (g i * sh (cf g (tr N fun m => y (m + 1))) i) + _)
      grind
    rw [key f, key (rv n f), auto_rv hf 0 (K' + 1) (by omega), ss_rv hf N _ K' (by omega)]
    by_cases hK0 : 0 < K'
    · rw [ip_rv hf N _ (0 + 1) K' (by omega) hK0]
    · have : K' = 0 := by omega
      subst this
      rfl
/-- what the row and its back to front make of anything differ by the last of it alone -/
theorem tail_le {n : Nat} {f : Nat → Rat} (hf : Sp0 n f) {B : Rat} (b0 : 0 ≤ B) (hB : ∀ z k, SS (cf f z) k ≤ B * SS z k) (y : Nat → Rat) (N : Nat) : SS (cf (rv n f) y) N ≤ SS (cf f y) N + B * (SS y N - SS y (N - n)) := by
  have ez : ∀ g : Nat → Rat, SS (cf g y) N = SS (cf g (tr N y)) N := fun g => ss_congr N fun i hi => cf_congr (fun _ _ => rfl) fun k hk => by
    unfold tr
    rw [if_pos (by omega)]
  rw [ez f, ez (rv n f)]
  have h1 : SS (cf (rv n f) (tr N y)) N ≤ SS (cf (rv n f) (tr N y)) (N + n) := ss_mono _ (by omega)
  rw [← ss_rv hf N y (N + n) (Nat.le_refl _)] at h1
  let z2 : Nat → Rat := fun m => if N - n ≤ m ∧ m < N then y m else 0
  have h2 := ss_tail (z := cf f (tr N y)) (w := cf f z2) (n := N) (fun m hm => by
    refine sm_congr _ fun i hi => ?_
    by_cases hin : i ≤ n
    · have : tr N y (m - i) = z2 (m - i) := by
        show (if m - i < N then y (m - i) else 0) = if N - n ≤ m - i ∧ m - i < N then y (m - i) else 0
        by_cases hlt : m - i < N
        · rw [if_pos hlt, if_pos ⟨by omega, hlt⟩]
        · rw [if_neg hlt, if_neg fun h => hlt h.2]
      rw [this]
    · rw [hf i (by omega)]
      grind) n
  have h3 := hB z2 (N + n)
  have h4 := ss0 (cf f z2) N
  have h5 : SS z2 (N + n) = SS y N - SS y (N - n) := by
    have e1 := ss_tail (z := z2) (w := fun _ => 0) (n := N) (fun m hm => if_neg fun h => absurd h.2 (by omega)) n
    have e0 : ∀ k, SS (fun _ => 0) k = 0 := fun k => sm_zero k fun i _ => by grind
    rw [e0, e0] at e1
    have e2 : SS z2 (N - n) = 0 := sm_zero _ fun i hi => by
      have : z2 i = 0 := if_neg fun h => absurd h.1 (by omega)
      rw [this]
      grind
    have e3 : SS z2 N - SS z2 (N - n) = SS y N - SS y (N - n) := by
      have key : ∀ k, N - n + k ≤ N → SS z2 (N - n + k) - SS z2 (N - n) = SS y (N - n + k) - SS y (N - n) := by
        intro k
        induction k with
        | zero => intro _; rw [Nat.add_zero]; grind
        | succ k ih =>
          intro hk
          have h := ih (by omega)
          rw [← Nat.add_assoc, ss_succ, ss_succ]
          have : z2 (N - n + k) = y (N - n + k) := if_pos ⟨by omega, by omega⟩
          rw [this]
          grind
      have := key (N - (N - n)) (by omega)
      rwa [show N - n + (N - (N - n)) = N by omega] at this
    grind
  rw [h5] at h3
  grind
/-- going on so that nothing comes any more -/
theorem go_on {f : Nat → Rat} (h0 : f 0 ≠ 0) (y : Nat → Rat) (N : Nat) : ∀ k, ∃ z : Nat → Rat, (∀ m, m < N → z m = y m) ∧ ∀ m, N ≤ m → m < N + k → cf f z m = 0
  | 0 => ⟨y, fun _ _ => rfl, fun m h1 h2 => absurd h2 (by omega)⟩
  | k + 1 => by
    obtain ⟨z, e1, e2⟩ := go_on h0 y N k
    refine ⟨fun m => if m = N + k then z m - cf f z m / f 0 else z m, fun m hm => ?_, fun m h1 h2 => ?_⟩
    · show (if m = N + k then _ else z m) = _
      rw [if_neg (by omega)]
      exact e1 m hm
    · by_cases hm : m = N + k
      · subst hm
        have key : ∀ w : Nat → Rat, cf f w (N + k) = f 0 * w (N + k) + sm (fun i => f (i + 1) * w (N + k - (i + 1))) (N + k) := fun w => by
          unfold cf
          rw [sm_front]
          rfl
        have k1 := key z
        rw [key]
        have e3 : sm (fun i => f (i + 1) * (if N + k - (i + 1) = N + k then z (N + k - (i + 1)) - cf f z (N + k - (i + 1)) / f 0 else z (N + k - (i + 1)))) (N + k) = sm (fun i => f (i + 1) * z (N + k - (i + 1))) (N + k) := sm_congr _ fun i hi => by
          rw [if_neg (by omega)]
        rw [e3, if_pos rfl]
        grind
      · rw [← e2 m h1 (by omega)]
        refine cf_congr (fun _ _ => rfl) fun i hi => ?_
        show (if i = N + k then _ else z i) = _
        rw [if_neg (by omega)]
theorem arch {a b : Rat} (hb : 0 < b) (h : ∀ j : Nat, (j : Rat) * b ≤ a) : False := by
  have h1 := h ((a / b).ceil.toNat + 1)
  have h2 : a / b ≤ ((a / b).ceil : Rat) := Rat.le_ceil
  have h3 : ((a / b).ceil : Rat) ≤ (((a / b).ceil.toNat : Nat) : Rat) := by
    have : (a / b).ceil ≤ (((a / b).ceil.toNat : Nat) : Int) := Int.self_le_toNat _
    exact_mod_cast this
  have h4 : a / b * b = a := by grind
  have h5 := Rat.mul_le_mul_of_nonneg_right (Rat.le_trans h2 h3) (Rat.le_of_lt hb)
  push_cast at h1
  grind
/-- a row that divides well lets no more through back to front -/
theorem good_pass {n : Nat} {p : List Rat} (hp : p.length = n + 1) (g : Good (at0 p)) (y : Nat → Rat) (N : Nat) : SS (cf (rv n (at0 p)) y) N ≤ SS (cf (at0 p) y) N := by
  refine Classical.byContradiction fun hn => ?_
  have h0 := g.head
  obtain ⟨C, c0, hC⟩ := g
  obtain ⟨B, b0, hB⟩ := fir p
  have hsp : Sp0 n (at0 p) := fun i hi => at0_out (by omega)
  generalize at0 p = f at *
  have hd : 0 < SS (cf (rv n f) y) N - SS (cf f y) N := by grind
  refine arch (a := B * (C * SS (cf f y) N)) hd fun j => ?_
  obtain ⟨z, e1, e2⟩ := go_on h0 y N (j * n)
  have eq : ∀ g : Nat → Rat, SS (cf g z) N = SS (cf g y) N := fun g => ss_congr N fun i hi => cf_congr (fun _ _ => rfl) fun k hk => e1 k (by omega)
  have flat : ∀ k, k ≤ j * n → SS (cf f z) (N + k) = SS (cf f y) N := by
    intro k
    induction k with
    | zero => intro _; exact eq f
    | succ k ih =>
      intro hk
      rw [← Nat.add_assoc, ss_succ, ih (by omega), e2 (N + k) (by omega) (by omega)]
      grind
  have step : ∀ i, i ≤ j → (i : Rat) * (SS (cf (rv n f) y) N - SS (cf f y) N) ≤ B * SS z (N + i * n) := by
    intro i
    induction i with
    | zero =>
      intro _
      have := Rat.mul_nonneg b0 (ss0 z (N + 0 * n))
      have e : ((0 : Nat) : Rat) = 0 := rfl
      rw [e]
      grind
    | succ i ih =>
      intro hi
      have h1 := ih (by omega)
      have hle : (i + 1) * n ≤ j * n := Nat.mul_le_mul_right _ hi
      have h2 := tail_le hsp b0 hB z (N + (i + 1) * n)
      rw [flat _ hle] at h2
      have h3 : SS (cf (rv n f) y) N ≤ SS (cf (rv n f) z) (N + (i + 1) * n) := by
        rw [← eq]
        exact ss_mono _ (by omega)
      have e : N + (i + 1) * n - n = N + i * n := by
        rw [Nat.add_mul, Nat.one_mul]
        omega
      rw [e] at h2
      push_cast
      grind
  have h1 := step j (Nat.le_refl _)
  have h2 := hC z (N + j * n)
  rw [flat _ (Nat.le_refl _)] at h2
  have h3 := mul_le b0 h2
  grind
theorem sq2 {x u a w : Rat} (h : u = 1 * x + a * w) : x * x ≤ 2 * (u * u) + 2 * a * a * (w * w) := by
  obtain rfl : x = u - a * w := by grind
  have := sq0 (u + a * w)
  grind
/-- its last number is smaller than its first one -/
theorem good_last {n : Nat} {p : List Rat} (hp : p.length = n + 2) (g : Good (at0 p)) : at0 p (n + 1) * at0 p (n + 1) < at0 p 0 * at0 p 0 := by
  refine Classical.byContradiction fun hn => ?_
  have h0 := g.head
  have hle : at0 p 0 * at0 p 0 ≤ at0 p (n + 1) * at0 p (n + 1) := by grind
  have hpos : 0 < at0 p (n + 1) * at0 p (n + 1) := by
    have := sq_pos h0
    grind
  obtain ⟨C, c0, hC⟩ := g
  have ha : 0 ≤ 4 * C * (at0 p (n + 1) * at0 p (n + 1)) := Rat.mul_nonneg (by grind) (Rat.le_of_lt hpos)
  obtain ⟨t, t0, t1, ht⟩ : ∃ t : Rat, 0 < t ∧ t ≤ 1 ∧ 4 * C * (at0 p (n + 1) * at0 p (n + 1)) * (t * t) ≤ 1 := by
    generalize 4 * C * (at0 p (n + 1) * at0 p (n + 1)) = a at ha
    have h1 : 0 < 1 + a := by grind
    have i0 : 0 < 1 / (1 + a) := by
      have := Rat.inv_pos.mpr h1
      grind
    have i1 : (1 + a) * (1 / (1 + a)) = 1 := by grind
    generalize 1 / (1 + a) = t at *
    have hat : 0 ≤ a * t := Rat.mul_nonneg ha (Rat.le_of_lt i0)
    have t1 : t ≤ 1 := by grind
    refine ⟨t, i0, t1, ?_⟩
    have := mul_le hat t1
    grind
  let p' := p.set (n + 1) (at0 p (n + 1) * (1 + t))
  have e' : ∀ i, at0 p' i = 1 * at0 p i + (at0 p (n + 1) * t) * (if i = n + 1 then 1 else 0) := fun i => by
    show at0 (p.set (n + 1) _) i = _
    by_cases hi : i = n + 1
    · subst hi
      rw [if_pos rfl]
      have : at0 (p.set (n + 1) (at0 p (n + 1) * (1 + t))) (n + 1) = at0 p (n + 1) * (1 + t) := at0_some (List.getElem?_set_self (by omega))
      rw [this]
      grind
    · rw [if_neg hi]
      have : at0 (p.set (n + 1) (at0 p (n + 1) * (1 + t))) i = at0 p i := by
        unfold at0
        simp only [List.getD_eq_getElem?_getD]
        rw [List.getElem?_set_ne (by omega)]
      rw [this]
      grind
  have one_le : ∀ k y N, SS (cf (fun i => if i = k then 1 else 0) y) N ≤ SS y N := by
    intro k
    induction k with
    | zero =>
      intro y N
      have : SS (cf (fun i => if i = 0 then 1 else 0) y) N = SS y N := ss_congr N fun i _ => by
        rw [← cf_dl y i]
        exact cf_congr (fun j _ => by cases j <;> rfl) fun _ _ => rfl
      rw [this]
      exact Rat.le_refl
    | succ k ih =>
      intro y N
      have : SS (cf (fun i => if i = k + 1 then 1 else 0) y) N = SS (sh (cf (fun i => if i = k then 1 else 0) y)) N := ss_congr N fun i _ => by
        rw [← cf_sh]
        refine cf_congr (fun j _ => ?_) fun _ _ => rfl
        cases j with
        | zero => rfl
        | succ j =>
          show (if j + 1 = k + 1 then (1 : Rat) else 0) = if j = k then 1 else 0
          by_cases h : j = k
          · rw [if_pos h, if_pos (by omega)]
          · rw [if_neg h, if_neg (by omega)]
      rw [this]
      exact Rat.le_trans (ss_sh_le _ _) (ih y N)
  have g' : Good (at0 p') := by
    refine ⟨4 * C, by grind, fun y N => ?_⟩
    have h1 := hC y N
    have h2 := ss_le (z := cf (at0 p) y) (x := cf (at0 p') y) (w := cf (fun i => if i = n + 1 then 1 else 0) y) (a := 2) (b := 2 * (at0 p (n + 1) * t) * (at0 p (n + 1) * t)) (fun m => by
      exact sq2 (cf_lin (e := at0 p') (m := m) y e')) N
    have h3 := one_le (n + 1) y N
    have k0 : 0 ≤ 2 * (at0 p (n + 1) * t) * (at0 p (n + 1) * t) := by
      have := sq0 (at0 p (n + 1) * t)
      grind
    have h4 := mul_le k0 h3
    have h5 := mul_le c0 (Rat.le_trans h2 (show 2 * SS (cf (at0 p') y) N + 2 * (at0 p (n + 1) * t) * (at0 p (n + 1) * t) * SS (cf (fun i => if i = n + 1 then 1 else 0) y) N ≤ 2 * SS (cf (at0 p') y) N + 2 * (at0 p (n + 1) * t) * (at0 p (n + 1) * t) * SS y N by grind))
    have h6 := Rat.mul_le_mul_of_nonneg_right ht (ss0 y N)
    have h7 : C * (2 * (at0 p (n + 1) * t) * (at0 p (n + 1) * t) * SS y N) * 2 = 4 * C * (at0 p (n + 1) * at0 p (n + 1)) * (t * t) * SS y N := by grind
    grind
  have hl : p'.length = n + 1 + 1 := by
    show (p.set _ _).length = _
    rw [List.length_set]
    omega
  have h1 := good_pass (n := n + 1) hl g' dl 1
  have e1 : ∀ f : Nat → Rat, SS (cf f dl) 1 = f 0 * f 0 := fun f => by
    show (0 : Rat) + cf f dl 0 * cf f dl 0 = _
    rw [cf_dlR]
    grind
  rw [e1, e1] at h1
  have e2 : rv (n + 1) (at0 p') 0 = at0 p (n + 1) * (1 + t) := by
    unfold rv
    rw [if_pos (by omega), Nat.sub_zero, e', if_pos rfl]
    grind
  have e3 : at0 p' 0 = at0 p 0 := by
    rw [e', if_neg (by omega)]
    grind
  rw [e2, e3] at h1
  have h2 := Rat.mul_pos hpos t0
  have h3 := Rat.mul_pos h2 t0
  grind
/-! one bend less -/
theorem cf_nx {n : Nat} {l : List Rat} (hl : l.length = n + 2) (y : Nat → Rat) (m : Nat) : cf (at0 (nx l)) y m = at0 l 0 * cf (at0 l) y m + (-at0 l (n + 1)) * cf (rv (n + 1) (at0 l)) y m := by
  refine cf_lin y fun i => ?_
  unfold rv
  by_cases h : i < n + 1
  · rw [at0_nx (by omega), hl, if_pos (by omega), show n + 2 - 1 = n + 1 by omega]
    grind
  · rw [at0_out (by rw [nx_len]; omega)]
    by_cases h2 : i = n + 1
    · subst h2
      rw [if_pos (by omega), Nat.sub_self]
      grind
    · rw [if_neg (by omega), at0_out (l := l) (i := i) (by omega)]
      grind
theorem cf_nxR {n : Nat} {l : List Rat} (hl : l.length = n + 2) (y : Nat → Rat) (m : Nat) : sh (cf (rv n (at0 (nx l))) y) m = at0 l 0 * cf (rv (n + 1) (at0 l)) y m + (-at0 l (n + 1)) * cf (at0 l) y m := by
  rw [← cf_sh]
  refine cf_lin y fun i => ?_
  unfold rv
  cases i with
  | zero =>
    rw [if_pos (by omega), Nat.sub_zero]
    show (0 : Rat) = _
    grind
  | succ i =>
    show (if i ≤ n then at0 (nx l) (n - i) else 0) = _
    by_cases h : i ≤ n
    · rw [if_pos h, if_pos (by omega), at0_nx (by omega), hl, show n + 2 - 1 = n + 1 by omega, show n + 1 - (n - i) = i + 1 by omega, show n + 1 - (i + 1) = n - i by omega]
      grind
    · rw [if_neg h, if_neg (by omega), at0_out (l := l) (i := i + 1) (by omega)]
      grind
theorem size_of (k : Rat) (h : k * k < 1) : ∃ a : Rat, 0 ≤ a ∧ a < 1 ∧ (k = a ∨ k = -a) := by
  have key : ∀ a : Rat, 0 ≤ a → a * a < 1 → a < 1 := fun a h1 h2 => Classical.byContradiction fun z => by
    have : 1 ≤ a := by grind
    have := mul_le h1 this
    grind
  rcases (by grind : k ≤ 0 ∨ 0 ≤ k) with z | z
  · exact ⟨-k, by grind, key _ (by grind) (by grind), .inr (by grind)⟩
  · exact ⟨k, z, key _ z h, .inl rfl⟩
theorem mix {a k p v : Rat} (h0 : 0 ≤ a) (h1 : a < 1) (hk : k = a ∨ k = -a) : (p + k * v) * (p + k * v) ≤ 1 / (1 - a) * (p * p) + a * (v * v) := by
  have hp : 0 < 1 - a := by grind
  have hi : 0 < 1 / (1 - a) := by
    have := Rat.inv_pos.mpr hp
    grind
  have he : (1 - a) * (1 / (1 - a)) = 1 := by grind
  generalize 1 / (1 - a) = c at *
  have hac : 0 ≤ a * c := Rat.mul_nonneg h0 (Rat.le_of_lt hi)
  rcases hk with rfl | rfl
  · have := Rat.mul_nonneg hac (sq0 (p - (1 - k) * v))
    have e : c * (p * p) + k * (v * v) - (p + k * v) * (p + k * v) = k * c * ((p - (1 - k) * v) * (p - (1 - k) * v)) := by grind
    rw [← e] at this
    grind
  · have := Rat.mul_nonneg hac (sq0 (p + (1 - a) * v))
    have e : c * (p * p) + a * (v * v) - (p + -a * v) * (p + -a * v) = a * c * ((p + (1 - a) * v) * (p + (1 - a) * v)) := by grind
    rw [← e] at this
    grind
theorem mixS {a k s : Rat} {u p v : Nat → Rat} (h0 : 0 ≤ a) (h1 : a < 1) (hk : k = a ∨ k = -a) (N : Nat) (hu : ∀ m, u m = s * p m + k * v m) (hv : SS v N ≤ SS u N) : SS u N ≤ 1 / (1 - a) * (1 / (1 - a)) * (s * s) * SS p N := by
  have hp : 0 < 1 - a := by grind
  have hi : 0 < 1 / (1 - a) := by
    have := Rat.inv_pos.mpr hp
    grind
  have he : (1 - a) * (1 / (1 - a)) = 1 := by grind
  have h2 := ss_le (z := u) (x := p) (w := v) (a := 1 / (1 - a) * (s * s)) (b := a) (fun m => by
    have := mix (p := s * p m) (v := v m) h0 h1 hk
    rw [hu m]
    grind) N
  have h3 := mul_le h0 hv
  generalize 1 / (1 - a) = c at *
  have h4 := mul_le (Rat.le_of_lt hi) (show (1 - a) * SS u N ≤ c * (s * s) * SS p N by grind)
  have e4 : c * ((1 - a) * SS u N) = SS u N := by grind
  rw [e4] at h4
  grind
theorem quo_lt {x f : Rat} (h0 : f ≠ 0) (hb : x * x < f * f) : (x / f) * (x / f) < 1 := by
  refine Classical.byContradiction fun z => ?_
  obtain ⟨k, rfl⟩ : ∃ k, x = k * f := ⟨x / f, by grind⟩
  have e : k * f / f = k := by grind
  rw [e] at z
  have h2 := sq_pos h0
  have h3 := mul_le (Rat.le_of_lt h2) (show 1 ≤ k * k by grind)
  grind
theorem good_nx {n : Nat} {l : List Rat} (hl : l.length = n + 2) (g : Good (at0 l)) : Good (at0 (nx l)) := by
  have h0 := g.head
  have hb := good_last hl g
  have pass := good_pass (n := n + 1) (by omega) g
  obtain ⟨C, c0, hC⟩ := g
  have hk : (at0 l (n + 1) / at0 l 0) * (at0 l (n + 1) / at0 l 0) < 1 := quo_lt h0 hb
  obtain ⟨a, a0, a1, ha⟩ := size_of _ hk
  refine ⟨C * (1 / (1 - a) * (1 / (1 - a)) * (1 / at0 l 0 * (1 / at0 l 0))), Rat.mul_nonneg c0 (Rat.mul_nonneg (sq0 _) (sq0 _)), fun y N => ?_⟩
  have h1 := mixS (u := cf (at0 l) y) (p := cf (at0 (nx l)) y) (v := cf (rv (n + 1) (at0 l)) y) (s := 1 / at0 l 0) a0 a1 ha N (fun m => by
    rw [cf_nx hl]
    grind) (pass y N)
  have h2 := mul_le c0 h1
  have h3 := hC y N
  grind
theorem good_up {n : Nat} {l : List Rat} (hl : l.length = n + 2) (h0 : at0 l 0 ≠ 0) (hb : at0 l (n + 1) * at0 l (n + 1) < at0 l 0 * at0 l 0) (g : Good (at0 (nx l))) : Good (at0 l) := by
  have pass := good_pass (n := n) (by rw [nx_len]; omega) g
  obtain ⟨C, c0, hC⟩ := g
  have hk : (at0 l (n + 1) / at0 l 0) * (at0 l (n + 1) / at0 l 0) < 1 := quo_lt h0 hb
  have hk2 : (-(at0 l (n + 1) / at0 l 0)) * (-(at0 l (n + 1) / at0 l 0)) < 1 := by grind
  obtain ⟨a, a0, a1, ha⟩ := size_of _ hk2
  have hm : at0 l (n + 1) / at0 l 0 * at0 l 0 = at0 l (n + 1) := by grind
  have hm2 : 1 / at0 l 0 * at0 l 0 = 1 := by grind
  refine ⟨C * (1 / (1 - a) * (1 / (1 - a)) * (((at0 l 0 * at0 l 0 - at0 l (n + 1) * at0 l (n + 1)) * (1 / at0 l 0)) * ((at0 l 0 * at0 l 0 - at0 l (n + 1) * at0 l (n + 1)) * (1 / at0 l 0)))), Rat.mul_nonneg c0 (Rat.mul_nonneg (sq0 _) (sq0 _)), fun y N => ?_⟩
  have h1 := mixS (u := cf (at0 (nx l)) y) (p := cf (at0 l) y) (v := sh (cf (rv n (at0 (nx l))) y)) (s := (at0 l 0 * at0 l 0 - at0 l (n + 1) * at0 l (n + 1)) * (1 / at0 l 0)) a0 a1 ha N (fun m => by
    rw [cf_nx hl, cf_nxR hl]
    grind) (Rat.le_trans (ss_sh_le _ _) (pass y N))
  have h2 := mul_le c0 h1
  have h3 := hC y N
  grind
theorem good_one {l : List Rat} (hl : l.length = 1) (h0 : at0 l 0 ≠ 0) : Good (at0 l) := by
  match l, hl with
  | [c], _ =>
    have hc : c ≠ 0 := h0
    refine ⟨1 / c * (1 / c), sq0 _, fun y N => ?_⟩
    have : SS y N ≤ (1 / c * (1 / c)) * SS (cf (at0 [c]) y) N + 0 * SS y N := ss_le (fun m => by
      have e : cf (at0 [c]) y m = c * y m := by
        rw [cf_cons]
        have : sh (cf (at0 []) y) m = 0 := by
          cases m with
          | zero => rfl
          | succ m => exact cf_nil y m
        rw [this]
        grind
      have e2 : y m = 1 / c * cf (at0 [c]) y m := by rw [e]; grind
      rw [e2, e2.symm]
      have : 1 / c * (1 / c) * (cf (at0 [c]) y m * cf (at0 [c]) y m) = y m * y m := by
        rw [e2]
        have : cf (at0 [c]) (fun _ => 0) 0 = cf (at0 [c]) (fun _ => 0) 0 := rfl
        rw [← e2]
        grind
      grind) N
    grind
/-- a row has bends exactly if it divides well -/
theorem fb_good : ∀ (n : Nat) (l : List Rat), l.length = n + 1 → at0 l 0 ≠ 0 → ((fb n l).isSome = true ↔ Good (at0 l))
  | 0, l, hl, h0 => ⟨fun _ => good_one hl h0, fun _ => rfl⟩
  | n + 1, l, hl, h0 => by
    have e : l.length - 1 = n + 1 := by omega
    rw [fb_succ, e]
    by_cases hc : at0 l 0 * at0 l 0 ≤ at0 l (n + 1) * at0 l (n + 1)
    · rw [if_pos hc]
      constructor
      · intro h
        cases h
      · intro g
        have := good_last hl g
        grind
    · rw [if_neg hc, Option.isSome_map]
      have hb : at0 l (n + 1) * at0 l (n + 1) < at0 l 0 * at0 l 0 := by grind
      have h1 : at0 (nx l) 0 ≠ 0 := by
        rw [at0_nx (by omega), e, Nat.sub_zero]
        grind
      rw [fb_good n (nx l) (by rw [nx_len]; omega) h1]
      exact ⟨good_up hl h0 hb, good_nx hl⟩
end Vx
namespace Vx
theorem good_two (x : Rat) : Good (at0 [1, x]) ↔ x * x < 1 := by
  rw [← fb_good 1 [1, x] rfl (by decide : (1 : Rat) ≠ 0), fb_succ]
  have e1 : at0 [1, x] 0 = 1 := rfl
  have e2 : at0 [1, x] ([1, x].length - 1) = x := rfl
  rw [e1, e2]
  by_cases h : (1 : Rat) * 1 ≤ x * x
  · rw [if_pos h]
    exact ⟨fun z => (by cases z), fun z => (by grind)⟩
  · rw [if_neg h]
    exact ⟨fun _ => (by grind), fun _ => rfl⟩
theorem good_three {t c : Rat} (hc : c * c ≤ 1) : Good (at0 [1, -2 * (t * c), t * t]) ↔ t * t < 1 := by
  have hs : 0 ≤ t * t := sq0 t
  have hm : (-2 * (t * c)) * (-2 * (t * c)) ≤ 4 * (t * t) := by
    have := mul_le hs hc
    grind
  generalize -2 * (t * c) = m at *
  generalize t * t = s at *
  rw [← fb_good 2 [1, m, s] rfl (by decide : (1 : Rat) ≠ 0), fb_succ]
  have e1 : at0 [1, m, s] 0 = 1 := rfl
  have e2 : at0 [1, m, s] ([1, m, s].length - 1) = s := rfl
  rw [e1, e2]
  by_cases h : (1 : Rat) * 1 ≤ s * s
  · rw [if_pos h]
    refine ⟨fun z => (by cases z), fun z => ?_⟩
    have := mul_le hs (show s ≤ 1 by grind)
    grind
  · rw [if_neg h, Option.isSome_map]
    have h1 : s < 1 := by
      refine Classical.byContradiction fun z => ?_
      have := mul_le hs (show 1 ≤ s by grind)
      grind
    refine ⟨fun _ => h1, fun _ => ?_⟩
    rw [fb_succ]
    have e3 : at0 (nx [1, m, s]) 0 = 1 * 1 - s * s := rfl
    have e4 : at0 (nx [1, m, s]) ((nx [1, m, s]).length - 1) = 1 * m - s * m := rfl
    rw [e3, e4, if_neg]
    · rfl
    · intro z
      have p1 : 0 < 1 - s := by grind
      have p2 := Rat.mul_pos p1 p1
      have p3 : m * m < (1 + s) * (1 + s) := by grind
      have p4 := Rat.mul_lt_mul_of_pos_left p3 p2
      grind
theorem not_good_delay : ¬ Good (at0 [0, 1]) := fun g => g.head rfl
theorem inv_small {z : Rat} (h0 : z ≠ 0) : (-1 / z) * (-1 / z) < 1 ↔ z.den < z.num.natAbs := by
  have hd := z.den_pos
  have hn : z.num ≠ 0 := fun e => h0 (Rat.num_eq_zero.mp e)
  have ek : z = (z.num : Rat) / ((z.den : Int) : Rat) := by
    rw [← Rat.divInt_eq_div]
    exact (fr_self z).symm
  have h1 : (z.num : Rat) ≠ 0 := by exact_mod_cast hn
  have h2 : ((z.den : Int) : Rat) ≠ 0 := by exact_mod_cast (show (z.den : Int) ≠ 0 by omega)
  have e : ∀ x : Int, x * x = ((x.natAbs * x.natAbs : Nat) : Int) := fun x => Int.natAbs_mul_self.symm
  have key : ∀ z n d : Rat, n ≠ 0 → d ≠ 0 → z = n / d → ((-1 / z) * (-1 / z) < 1 ↔ d * d < n * n) := by
    intro z n d a b c
    have e1 : -1 / z = -(d / n) := by
      subst c
      grind
    rw [e1]
    obtain ⟨q, rfl⟩ : ∃ q, d = q * n := ⟨d / n, by grind⟩
    have e2 : q * n / n = q := by grind
    rw [e2]
    have p := sq_pos a
    constructor
    · intro h
      have := Rat.mul_lt_mul_of_pos_left (show q * q < 1 by grind) p
      grind
    · intro h
      refine Classical.byContradiction fun w => ?_
      have := mul_le (Rat.le_of_lt p) (show 1 ≤ q * q by grind)
      grind
  rw [key _ _ _ h1 h2 ek]
  have h3 : (((z.den : Int) : Rat) * ((z.den : Int) : Rat) < (z.num : Rat) * (z.num : Rat)) ↔ ((z.den : Int) * (z.den : Int) < z.num * z.num) := by
    constructor
    · intro h
      exact_mod_cast h
    · intro h
      exact_mod_cast h
  rw [h3, e z.num, e z.den, Int.natAbs_natCast]
  constructor
  · intro h
    refine Classical.byContradiction fun w => ?_
    have := Nat.mul_le_mul (Nat.le_of_not_lt w) (Nat.le_of_not_lt w)
    omega
  · intro h
    have := Nat.mul_lt_mul'' h h
    omega
theorem sq_small {t : Rat} : t * t < 1 ↔ t.num.natAbs < t.den := ⟨small_of_sq, small_sq⟩
theorem cd_one (c : Rat) {b : Nat} (h : Qz b c) : Cd b b [c] := by
  refine ⟨c.den, c.den_pos, Nat.le_of_lt h.2, fun d hd => ⟨c.num, ?_, Nat.le_of_lt h.1⟩⟩
  rw [List.mem_singleton.mp hd]
  have e : c = (c.num : Rat) / ((c.den : Int) : Rat) := by
    rw [← Rat.divInt_eq_div]
    exact (fr_self c).symm
  have h2 : ((c.den : Int) : Rat) ≠ 0 := by have := c.den_nz; exact_mod_cast (show (c.den : Int) ≠ 0 by omega)
  have key : ∀ c n d : Rat, d ≠ 0 → c = n / d → c * d = n := by
    intro c n d a b
    grind
  have := key _ _ _ h2 e
  push_cast at this
  exact this
/-- 1 - d / z -/
theorem cd_zero {z : Rat} (h0 : z ≠ 0) (h : Qz 4 z) : Cd 9 10 [1, -1 / z] := by
  have hn : z.num ≠ 0 := fun e => h0 (Rat.num_eq_zero.mp e)
  have b1 := h.1
  have b2 := h.2
  have ek : z = (z.num : Rat) / ((z.den : Int) : Rat) := by
    rw [← Rat.divInt_eq_div]
    exact (fr_self z).symm
  have h1 : (z.num : Rat) ≠ 0 := by exact_mod_cast hn
  have h2 : ((z.den : Int) : Rat) ≠ 0 := by have := z.den_nz; exact_mod_cast (show (z.den : Int) ≠ 0 by omega)
  have key : ∀ z n d : Rat, n ≠ 0 → d ≠ 0 → z = n / d → -1 / z * n = -d ∧ -1 / z * (-n) = d := by
    intro z n d a b c
    subst c
    constructor <;> grind
  obtain ⟨k1, k2⟩ := key _ _ _ h1 h2 ek
  refine ⟨z.num.natAbs, by omega, by omega, fun c hc => ?_⟩
  have ha : ((z.num.natAbs : Nat) : Rat) = (z.num : Rat) ∨ ((z.num.natAbs : Nat) : Rat) = -(z.num : Rat) := by
    rcases Int.natAbs_eq z.num with e | e
    · left
      have : ((z.num.natAbs : Nat) : Int) = z.num := e.symm
      exact_mod_cast this
    · right
      have : ((z.num.natAbs : Nat) : Int) = -z.num := by omega
      exact_mod_cast this
  rcases List.mem_cons.mp hc with rfl | hc
  · exact ⟨(z.num.natAbs : Int), by push_cast; grind, by omega⟩
  · rw [List.mem_singleton.mp hc]
    rcases ha with e | e
    · refine ⟨-(z.den : Int), ?_, by omega⟩
      rw [e, k1]
      push_cast
      rfl
    · refine ⟨(z.den : Int), ?_, by omega⟩
      rw [e, k2]
theorem cd_pair {n m k : Int} (hn : 0 < n ∧ n ≤ 11) (hm : 0 < m ∧ m ≤ 10) (hk : -6 ≤ k ∧ k ≤ 6) {t c : Rat} (ht : t = Rat.divInt n m) (hc : c = Rat.divInt k 6) : Cd 9 10 [1, -2 * (t * c), t * t] ∧ c * c ≤ 1 ∧ t ≠ 0 := by
  rw [Rat.divInt_eq_div] at ht hc
  have hmr : (m : Rat) ≠ 0 := by exact_mod_cast (show m ≠ 0 by omega)
  have hnr : (n : Rat) ≠ 0 := by exact_mod_cast (show n ≠ 0 by omega)
  have e6 : ((6 : Int) : Rat) = 6 := rfl
  rw [e6] at hc
  have t1 : t * (m : Rat) = (n : Rat) := by grind
  have c1 : c * 6 = (k : Rat) := by grind
  have bm : m * m ≤ 100 := by
    have := Int.mul_le_mul hm.2 hm.2 (by omega) (by omega)
    omega
  have bp : 0 < m * m := Int.mul_pos hm.1 hm.1
  have bn : n * n ≤ 121 := by
    have := Int.mul_le_mul hn.2 hn.2 (by omega) (by omega)
    omega
  have bnp : 0 < n * n := Int.mul_pos hn.1 hn.1
  have bnm : (n * m).natAbs ≤ 110 := by
    rw [Int.natAbs_mul]
    exact Nat.mul_le_mul (show n.natAbs ≤ 11 by omega) (show m.natAbs ≤ 10 by omega)
  have bnk : (n * m * k).natAbs ≤ 660 := by
    rw [Int.natAbs_mul]
    exact Nat.mul_le_mul bnm (show k.natAbs ≤ 6 by omega)
  refine ⟨⟨(3 * (m * m)).toNat, by omega, by omega, fun x hx => ?_⟩, ?_, fun z => ?_⟩
  · have hD : (((3 * (m * m)).toNat : Nat) : Rat) = 3 * ((m : Rat) * (m : Rat)) := by
      have : (((3 * (m * m)).toNat : Nat) : Int) = 3 * (m * m) := by omega
      have h2 : (((3 * (m * m)).toNat : Nat) : Rat) = ((3 * (m * m) : Int) : Rat) := by exact_mod_cast this
      rw [h2]
      push_cast
      rfl
    rw [hD]
    simp only [List.mem_cons, List.not_mem_nil, or_false] at hx
    rcases hx with rfl | rfl | rfl
    · exact ⟨3 * (m * m), by push_cast; grind, by omega⟩
    · exact ⟨-(n * m * k), by push_cast; grind, by omega⟩
    · exact ⟨3 * (n * n), by push_cast; grind, by omega⟩
  · have hk2 : k * k ≤ 36 := by
      have e : k * k = ((k.natAbs * k.natAbs : Nat) : Int) := Int.natAbs_mul_self.symm
      have := Nat.mul_le_mul (show k.natAbs ≤ 6 by omega) (show k.natAbs ≤ 6 by omega)
      omega
    have h3 : (k : Rat) * (k : Rat) ≤ 36 := by exact_mod_cast hk2
    have key : ∀ c k : Rat, c * 6 = k → k * k ≤ 36 → c * c ≤ 1 := by
      intro c k a b
      subst a
      grind
    exact key _ _ c1 h3
  · rw [z] at t1
    grind
end Vx
namespace Vx
theorem tr_at {l : List Rat} (ht : Tr l) (hn : l ≠ []) : at0 l (l.length - 1) ≠ 0 := by
  have hp := List.length_pos_iff.mpr hn
  have := ht hn
  rw [List.getLast_eq_getElem] at this
  have e := at0_get (l := l) (i := l.length - 1) (by omega)
  rw [List.getElem?_eq_getElem (by omega)] at e
  rw [← Option.some.inj e]
  exact this
theorem fb_lead {l bs : List Rat} (ht : Tr l) (hn : l ≠ []) (h : fb (l.length - 1) l = some bs) : at0 l 0 ≠ 0 := fun z => by
  have hp := List.length_pos_iff.mpr hn
  have hlast := tr_at ht hn
  by_cases h1 : l.length = 1
  · rw [h1] at hlast
    exact hlast z
  · obtain ⟨n, hn'⟩ : ∃ n, l.length - 1 = n + 1 := ⟨l.length - 2, by omega⟩
    rw [hn', fb_succ, z, if_pos] at h
    · cases h
    · have := sq0 (at0 l (l.length - 1))
      grind
theorem fb_iff {r : List Rat} (t : Tr r) (n : r ≠ []) : (fb (r.length - 1) r).isSome = true ↔ Good (at0 r) := by
  have hp := List.length_pos_iff.mpr n
  by_cases h0 : at0 r 0 = 0
  · constructor
    · intro h
      obtain ⟨bs, e⟩ := Option.isSome_iff_exists.mp h
      exact absurd h0 (fb_lead t n e)
    · intro g
      exact absurd h0 g.head
  · exact fb_good _ _ (by omega) h0
theorem fb_calm {r : List Rat} (t : Tr r) (n : r ≠ []) {c : Bool} (g : Good (at0 r) ↔ c = true) : (fb (r.length - 1) r).isSome = c := by
  have h := (fb_iff t n).trans g
  cases c with
  | true => exact h.mpr rfl
  | false =>
    cases e : (fb (r.length - 1) r).isSome with
    | false => rfl
    | true => exact (h.mp e).symm ▸ rfl
theorem fb_small : ∀ (n : Nat) (l bs : List Rat), l.length = n + 1 → at0 l 0 ≠ 0 → fb n l = some bs → ∀ k ∈ bs, k * k < 1
  | 0, _, bs, _, _, h, k, hk => by
    unfold fb at h
    cases h
    cases hk
  | n + 1, l, bs, hl, h0, h, k, hk => by
    rw [fb_succ] at h
    split at h
    · cases h
    · rename_i hc
      obtain ⟨cs, h1, rfl⟩ := Option.map_eq_some_iff.mp h
      rcases List.mem_cons.mp hk with rfl | h'
      · exact quo_lt h0 (by grind)
      · refine fb_small n (nx l) cs (by rw [nx_len]; omega) ?_ h1 k h'
        rw [at0_nx (by omega), Nat.sub_zero]
        grind
theorem good_later {r : List Rat} {k : Nat} : ¬ Good (at0 (List.replicate (k + 1) 0 ++ r)) := fun g => g.head rfl
theorem cd_pad {a b k : Nat} {l : List Rat} (h : Cd a b l) : Cd a b (List.replicate k 0 ++ l) := by
  obtain ⟨D, h0, h1, h2⟩ := h
  refine ⟨D, h0, h1, fun c hc => ?_⟩
  rcases List.mem_append.mp hc with z | z
  · rw [(List.mem_replicate.mp z).2]
    exact ⟨0, by push_cast; grind, Nat.zero_le _⟩
  · exact h2 c z
theorem tr_pre {k : Nat} {qs : List Rat} (h : Tr qs) (hn : qs ≠ []) : Tr (List.replicate k 0 ++ qs) := fun hz => by
  rw [List.getLast_append_right hn]
  exact h hn
end Vx
-- big
set_option Elab.async false
set_option linter.all false
set_option maxRecDepth 100000
set_option maxHeartbeats 4000000
namespace Vx
open PySem PySem.Spec PyProof.Rows L2
local macro_rules | `(tactic| walk_at "cl") => `(tactic| first | assumption | exact Bz.mono (Bz.mul (by assumption) (by assumption)) (by decide) | rfl | omega | exact sz_of 0 rfl (by decide) | exact sz_of 1 rfl (by decide) | exact sz_of 2 rfl (by decide) | exact sz_of 3 rfl (by decide) | exact cmuly (by assumption) (by assumption) (by decide) | exact Bz.mono (Bz.mul (by assumption) (by assumption)) (by decide) | decide)
local macro_rules | `(tactic| walk_at "ex") => `(tactic| ((show Exists _); first | apply @Exists.intro V | apply @Exists.intro Int | apply @Exists.intro Addr | apply @Exists.intro (List V) | apply @Exists.intro Nat | apply @Exists.intro Str | apply @Exists.intro Bool | apply @Exists.intro (Option V) | apply @Exists.intro String | apply @Exists.intro Rat | apply @Exists.intro (List Rat)))
local macro_rules | `(tactic| walk_at "rd") => `(tactic| ((repeat (first | (walk_at "ex") | (apply And.intro; (focus (walk_at "cl"))))); (try dsimp only [])))
local macro_rules | `(tactic| walk_at "r0") => `(tactic| (repeat (first | (walk_at "ex") | (apply And.intro; (focus (walk_at "cl"))))))
section
variable {P : Program} {w : World} {K : PySem.W.Frag} {mg : Str → Option Value} {base : Heap}
theorem sc__law_minus : FnScope ["one", "two"] ["one", "two"] (defScope s__law_minus) := ⟨rfl, rfl, rfl, by decide +kernel, rfl, by decide +kernel, by decide +kernel⟩
theorem d__law_minus (W : FunIn K mg "_law_minus" s__law_minus) (D_law_lowest : Df P w K mg base "_law_lowest" 33 ["n", "m"] (spLow K)) : Df P w K mg base "_law_minus" 34 ["one", "two"] (spR2 K (fun p q => p - q)) := by
  obtain ⟨f, fd, F, hm⟩ := W
  refine ⟨f, fd, F.ok sc__law_minus (fun vs H Q E h => ?_) (fun cdv A outer s H vs Q E hr h => ?_), hm, F.kp, F.binds fun _ _ _ _ _ _ us hl => match us, hl with | [_, _], _ => rfl⟩
  · obtain ⟨x, y, p, q, rfl, _⟩ := h
    rfl
  · obtain ⟨x, y, p, r, rfl, ⟨a, rfl, ha⟩, ⟨b, rfl, hb⟩, zp, zr, q⟩ := h
    have b1 := zp.n
    have b2 := zp.dd
    have b3 := zr.n
    have b4 := zr.dd
    have hd : 0 < (p.den : Int) * (r.den : Int) := Int.mul_pos (by have := p.den_nz; omega) (by have := r.den_nz; omega)
    refine ⟨_, (pss_one (ps_ret (pe_d D_law_lowest (hr.mono (by decide)) rfl (pa_cons (pe_op op_sub (pe_op op_mulX (pe_ix ix_tup (pv 0) pe_int (fun _ _ => rfl)) (pe_ix ix_tup (pv 1) pe_int (fun _ _ => rfl))) (pe_op op_mulX (pe_ix ix_tup (pv 1) pe_int (fun _ _ => rfl)) (pe_ix ix_tup (pv 0) pe_int (fun _ _ => rfl)))) (pa_cons (pe_op op_mulX (pe_ix ix_tup (pv 0) pe_int (fun _ _ => rfl)) (pe_ix ix_tup (pv 1) pe_int (fun _ _ => rfl))) pa_nil))))), ?_⟩
    walk_at "rd"
    rw [fr_sub]
    exact q
theorem tr_map {c : Rat} {l : List Rat} (hc : c ≠ 0) (h : Tr l) : Tr (l.map (c * ·)) := fun hn => by
  have hl : l ≠ [] := fun z => hn (by rw [z]; rfl)
  rw [List.getLast_map]
  have := h hl
  grind
theorem tr_smul {c : Rat} {l : List Rat} (hc : c ≠ 0) (h : Tr l) : Tr (smul c l) := tr_map hc h
/-- _law_low: over its first number, which is not 0 -/
def spLaLow (K : PySem.W.Frag) : Sp := fun vs H Q _ => ∃ (x : V) (qs : List Rat) (b : Nat), vs = [x] ∧ RwT K H x qs ∧ Tr qs ∧ at0 qs 0 ≠ 0 ∧ Qs b qs ∧ 0 < b ∧ b ≤ 900000 ∧ qs.length < 900 ∧ ∀ v H', Same H H' → RwT K H' v (smul (1 / at0 qs 0) qs) → Q v H'
theorem sc__law_low : FnScope ["row", "some", "each"] ["row"] (defScope s__law_low) := ⟨rfl, rfl, rfl, by decide +kernel, rfl, by decide +kernel, by decide +kernel⟩
theorem d__law_low (W : FunIn K mg "_law_low" s__law_low) (D_law_scaled : Df P w K mg base "_law_scaled" 35 ["row", "by"] (spScale K)) (D_law_over : Df P w K mg base "_law_over" 34 ["one", "two"] (spQ2 K)) : Df P w K mg base "_law_low" 36 ["row"] (spLaLow K) := by
  obtain ⟨f, fd, F, hm⟩ := W
  refine ⟨f, fd, F.ok sc__law_low (fun vs H Q E h => ?_) (fun cdv A outer s H vs Q E hr h => ?_), hm, F.kp, F.binds fun _ _ _ _ _ _ us hl => match us, hl with | [_], _ => rfl⟩
  · obtain ⟨x, qs, b, rfl, _⟩ := h
    rfl
  · obtain ⟨x, qs, b, rfl, ⟨a, us, rfl, ha, hA⟩, ht, h0, zq, hb0, hb, hlen, q⟩ := h
    have nd := sc__law_low.nd
    have hL := hA.length
    have hrow : RwT K H (.ref a) qs := ⟨a, us, rfl, ha, hA⟩
    have hpos : 0 < qs.length := by
      refine Nat.pos_of_ne_zero fun z => h0 (at0_out (by omega))
    obtain ⟨u0, hu0, hf0⟩ := hA.get' (at0_get hpos)
    refine ⟨_, (pss_cons (ps_setLc (i := 1) (own := [("each", 2)]) rfl nd rfl rfl (sw_true rfl rfl rfl (by decide +kernel)) (pi_tup (pv 0)) (blkOk_by (own := [("each", 2)]) (N := ["row", "some", "each"]) (sc := defScope s__law_low) (by decide +kernel)) (fun _ _ _ _ _ => (pg_name (i := 2) nd rfl (Or.inl rfl) (Or.inr rfl))) (fun _ _ _ _ _ => (pts_one (pt_cmpR op_ne (pe_ix (ix_tupK (K := K) rfl) (pv 2) pe_int (fun _ _ => rfl)) pe_int (nomark _)))) (fun _ _ _ _ _ => (pv 2)))
        (pss_one (ps_ret (pe_d D_law_scaled (hr.mono (by decide)) rfl (pa_cons (pv 0) (pa_cons (pe_d D_law_over (hr.mono (by decide)) rfl (pa_cons (pe_tup (pa_cons pe_int (pa_cons pe_int pa_nil))) (pa_cons (pe_ix ix_list (pv 1) pe_int (fun _ _ => rfl)) pa_nil))) pa_nil)))))), ?_⟩
    refine ⟨_, rfl, a, rfl, ⟨us, ha⟩, fun D hD => lc_it (walk_tup (K := K) (a := a) (xs := us)) (fun i H1 => Same H H1 ∧ ∃ acc, H1 D = some (.lst acc) ∧ acc.length ≤ i ∧ (0 < i → acc[0]? = some u0)) ⟨same_new hD, [], upd_same, Nat.le_refl _, fun z => absurd z (Nat.lt_irrefl _)⟩ (fun i H1 _ p => same_seqT p.1 ha) ?_ ?_⟩
    · rintro i u H1 H2 hi ⟨s1, acc, e1, l1, p1⟩ ⟨rfl, hu⟩
      obtain ⟨r, hr1, hfr⟩ := hA.get hu
      have hfr1 := hfr.mono (same_t s1)
      obtain ⟨e, rfl, he⟩ := hfr1
      have hat : atI [V.int r.num, V.int (r.den : Int)] 0 = some (V.int r.num) := rfl
      refine ⟨rfl, ?_⟩
      walk_at "r0"
      refine tifn (fun hne => ?_) (fun hz => ?_)
      · refine ⟨_, rfl, acc, e1, by rw [sizeLine_eq]; omega, fun c o ec => ?_, acc ++ [V.ref e], upd_same, by rw [List.length_append]; show _ + 1 ≤ _; omega, fun _ => ?_⟩
        · rw [upd_ne (ne_of_none ec hD)]
          exact s1 _ _ ec
        · cases i with
          | zero =>
            have : acc = [] := List.eq_nil_of_length_eq_zero (by omega)
            rw [this]
            show some (V.ref e) = some u0
            rw [← hu, hu0]
          | succ i =>
            have := p1 (Nat.succ_pos _)
            have hl : 0 < acc.length := (List.getElem?_eq_some_iff.mp this).1
            rw [List.getElem?_append_left hl]
            exact this
      · refine ⟨s1, acc, e1, by omega, fun _ => ?_⟩
        cases i with
        | zero =>
          exfalso
          have e3 : r = at0 qs 0 := by
            rw [at0_get hpos] at hr1
            exact (Option.some.inj hr1).symm
          have := V.int.inj hz
          exact h0 (by rw [← e3]; exact Rat.num_eq_zero.mp this)
        | succ i => exact p1 (Nat.succ_pos _)
    · rintro H1 ⟨s1, acc, e1, l1, p1⟩
      have p0 := p1 (by omega)
      have hl1 : SqL K H1 D acc := SqL.of e1
      have hat : atI acc 0 = some u0 := atI_nat (j := 0) p0
      have hrow1 := hrow.mono (same_t s1)
      refine ⟨V.ref a, rfl, ?_⟩
      refine ⟨sz_of 2 rfl (by decide), fun p2 hp2 => ?_⟩
      have s2 := same_new (o := .tup [V.int 1, V.int 1]) hp2
      have q2 : SqT K (upd H1 p2 (.tup [V.int 1, V.int 1])) p2 [V.int 1, V.int 1] := SqT.of upd_same
      have e2 := s2 _ _ e1
      generalize upd H1 p2 (.tup [V.int 1, V.int 1]) = H2 at s2 q2 e2
      have f1 : FrT K H2 (.ref p2) 1 := ⟨p2, rfl, q2⟩
      have f0 : FrT K H2 u0 (at0 qs 0) := hf0.mono (same_t (s1.trans s2))
      have z0 : Qz b (at0 qs 0) := zq _ (at0_mem hpos)
      refine ⟨V.ref D, rfl, D, acc, 0, u0, rfl, rfl, SqL.of e2, hat, V.ref p2, u0, 1, at0 qs 0, rfl, f1, f0, h0, qz1 (by decide), z0.mono hb, fun v H3 s3 hv => ?_⟩
      refine ⟨V.ref a, v, qs, 1 / at0 qs 0, b, b, rfl, hrow1.mono (same_t (s2.trans s3)), hv, zq, qz_inv z0 h0, hb, hb, hlen, fun v4 r4 H4 s4 hv4 ht4 hev4 _ _ => ?_⟩
      have er : r4 = smul (1 / at0 qs 0) qs := ev_inj ht4 (tr_smul (by grind) ht) fun z => by rw [hev4]; exact (ev_scale _ _ _).symm
      rw [er] at hv4
      exact q v4 H4 (((s1.trans s2).trans s3).trans s4) hv4
/-- _law_led -/
def spLed (K : PySem.W.Frag) : Sp := fun vs H Q _ => ∃ (a : Addr) (m : Nat), vs = [.ref a, .int (m : Int)] ∧ RlAt a H ∧ m < 100 ∧ ∀ v r H', RlAt a H' → But a H H' → RwT K H' v r → Tr r → Qs 4 r → r.length ≤ m + 1 → at0 r 0 = 1 → Q v H'
theorem sc__law_led : FnScope ["reel", "most"] ["reel", "most"] (defScope s__law_led) := ⟨rfl, rfl, rfl, by decide +kernel, rfl, by decide +kernel, by decide +kernel⟩
theorem d__law_led (W : FunIn K mg "_law_led" s__law_led) (D_law_drawn : Df P w K mg base "_law_drawn" 36 ["reel", "most"] (spDrawn K)) (D_law_trim : Df P w K mg base "_law_trim" 33 ["numbers"] (spTrimT K)) : Df P w K mg base "_law_led" 37 ["reel", "most"] (spLed K) := by
  obtain ⟨f, fd, F, hm⟩ := W
  refine ⟨f, fd, F.ok sc__law_led (fun vs H Q E h => ?_) (fun cdv A outer s H vs Q E hr h => ?_), hm, F.kp, F.binds fun _ _ _ _ _ _ us hl => match us, hl with | [_, _], _ => rfl⟩
  · obtain ⟨a, m, rfl, _⟩ := h
    rfl
  · obtain ⟨a, m, rfl, hR, hm, q⟩ := h
    refine ⟨_, (pss_one (ps_ret (pe_d D_law_trim (hr.mono (by decide)) rfl (pa_cons (pe_op op_catA (pe_tup (pa_cons (pe_tup (pa_cons pe_int (pa_cons pe_int pa_nil))) pa_nil)) (pe_d D_law_drawn (hr.mono (by decide)) rfl (pa_cons (pv 0) (pa_cons (pv 1) pa_nil)))) pa_nil)))), ?_⟩
    refine ⟨sz_of 2 rfl (by decide), fun p1 hp1 => ?_⟩
    have s1 := same_new (o := .tup [V.int 1, V.int 1]) hp1
    have q1 : SqT K (upd H p1 (.tup [V.int 1, V.int 1])) p1 [V.int 1, V.int 1] := SqT.of upd_same
    generalize upd H p1 (.tup [V.int 1, V.int 1]) = H1 at s1 q1
    refine ⟨sz_of 1 rfl (by decide), fun p2 hp2 => ?_⟩
    have s2 := same_new (o := .tup [V.ref p1]) hp2
    have q2 : SqT K (upd H1 p2 (.tup [V.ref p1])) p2 [V.ref p1] := SqT.of upd_same
    have s12 := s1.trans s2
    have f1 : RwT K (upd H1 p2 (.tup [V.ref p1])) (.ref p2) [1] := ⟨p2, _, rfl, q2, Al.one ⟨p1, rfl, same_seqT s2 q1⟩⟩
    generalize upd H1 p2 (.tup [V.ref p1]) = H2 at s2 q2 s12 f1
    have hR2 := same_rl hR s12
    refine ⟨V.ref a, rfl, V.int (m : Int), rfl, a, m, rfl, hR2, hm, fun v3 r3 H3 hR3 b3 hv3 ht3 hq3 hl3 => ?_⟩
    have st3 := but_samet hR2 b3
    refine rCatA_rw (f1.mono st3) hv3 (by show 1 + _ ≤ _; omega) fun v4 H4 s4 hv4 => ?_
    obtain ⟨l4, us4, rfl, h4, hA4⟩ := hv4
    have L4 := hA4.length
    rw [List.length_append] at L4
    have L4' : us4.length = 1 + r3.length := L4
    refine ⟨l4, us4, _, rfl, h4, hA4, by omega, fun v5 H5 k s5 ht5 hz5 hv5 => ?_⟩
    have htr : Tr (1 :: r3) := fun hn => by
      by_cases h : r3 = []
      · subst h
        show (1 : Rat) ≠ 0
        decide
      · rw [List.getLast_cons h]
        exact ht3 h
    have er : ([(1 : Rat)] ++ r3).take k = 1 :: r3 := ev_inj ht5 htr fun z => by rw [ev_take_drop _ _ hz5]; rfl
    rw [er] at hv5
    refine q v5 (1 :: r3) H5 (same_rl hR3 (s4.trans s5)) (but_trans (but_trans (same_but a s12) b3) (same_but a (s4.trans s5))) hv5 htr (fun c hc => ?_) (by show r3.length + 1 ≤ _; omega) rfl
    rcases List.mem_cons.mp hc with rfl | hc
    · exact qz1 (by decide)
    · exact hq3 c hc
end
end Vx
-- big
set_option Elab.async false
set_option linter.all false
set_option maxRecDepth 100000
set_option maxHeartbeats 4000000
namespace Vx
open PySem PySem.Spec PyProof.Rows L2
local macro_rules | `(tactic| walk_at "cl") => `(tactic| first | assumption | exact Bz.mono (Bz.mul (by assumption) (by assumption)) (by decide) | rfl | omega | exact sz_of 0 rfl (by decide) | exact sz_of 1 rfl (by decide) | exact sz_of 2 rfl (by decide) | exact sz_of 3 rfl (by decide) | exact cmuly (by assumption) (by assumption) (by decide) | exact Bz.mono (Bz.mul (by assumption) (by assumption)) (by decide) | decide)
local macro_rules | `(tactic| walk_at "ex") => `(tactic| ((show Exists _); first | apply @Exists.intro V | apply @Exists.intro Int | apply @Exists.intro Addr | apply @Exists.intro (List V) | apply @Exists.intro Nat | apply @Exists.intro Str | apply @Exists.intro Bool | apply @Exists.intro (Option V) | apply @Exists.intro String | apply @Exists.intro Rat | apply @Exists.intro (List Rat)))
local macro_rules | `(tactic| walk_at "rd") => `(tactic| ((repeat (first | (walk_at "ex") | (apply And.intro; (focus (walk_at "cl"))))); (try dsimp only [])))
local macro_rules | `(tactic| walk_at "r0") => `(tactic| (repeat (first | (walk_at "ex") | (apply And.intro; (focus (walk_at "cl"))))))
def bitsU : Nat → Nat
  | 0 => 20
  | t + 1 => 5 * bitsU t + 3
theorem bitsU_le {t : Nat} (h : t ≤ 3) : bitsU t ≤ 2593 ∧ 20 ≤ bitsU t := by
  match t, h with
  | 0, _ => decide
  | 1, _ => decide
  | 2, _ => decide
  | 3, _ => decide
theorem abs_den {k : Rat} : ((k.den : Int) ≤ (k.num.natAbs : Int)) ↔ 1 ≤ k * k := by
  constructor
  · intro h
    refine Classical.byContradiction fun z => ?_
    have := small_of_sq (show k * k < 1 by grind)
    omega
  · intro h
    refine Classical.byContradiction fun z => ?_
    have := small_sq (show k.num.natAbs < k.den by omega)
    grind
def LbI (K : PySem.W.Frag) (H : Hp) (qs : List Rat) (x : V) (t : Nat) (σ : L2.St) (H' : Hp) : Prop := ∃ (p q : Addr) (acc fs : List V) (l bs : List Rat) (o3 o4 o5 o6 : Option V), σ = [some x, some (.ref p), some (.ref q), o3, o4, o5, o6, none] ∧ Same H H' ∧ H q = none ∧ H' p = some (.lst acc) ∧ H' q = some (.lst fs) ∧ p ≠ q ∧ FrA K H' acc l ∧ FrA K H' fs bs ∧ at0 l 0 = 1 ∧ l.length + t = qs.length ∧ bs.length = t ∧ Qs (bitsU t) l ∧ fb (qs.length - 1) qs = (fb (qs.length - 1 - t) l).map (bs ++ ·)
section
variable {P : Program} {w : World} {K : PySem.W.Frag} {mg : Str → Option Value} {base : Heap}
/-- _law_bends -/
def spLB (K : PySem.W.Frag) : Sp := fun vs H Q _ => ∃ (x : V) (qs : List Rat) (b : Nat), vs = [x] ∧ RwT K H x qs ∧ Tr qs ∧ Qs b qs ∧ 0 < b ∧ b ≤ 900000 ∧ qs.length ≤ 6 ∧ (at0 qs 0 ≠ 0 → Qs 20 (smul (1 / at0 qs 0) qs) ∧ qs.length ≤ 5) ∧ (at0 qs 0 = 0 → ∀ H', Same H H' → Q .non H') ∧
  (at0 qs 0 ≠ 0 → fb (qs.length - 1) qs = none → ∀ H', Same H H' → Q .non H') ∧ (at0 qs 0 ≠ 0 → ∀ bs, fb (qs.length - 1) qs = some bs → ∀ v H', Same H H' → RwT K H' v bs → Q v H')
theorem sc__law_bends : FnScope ["row", "numbers", "found", "turn", "j", "k", "under", "i"] ["row"] (defScope s__law_bends) := ⟨rfl, rfl, rfl, by decide +kernel, rfl, by decide +kernel, by decide +kernel⟩
theorem d__law_bends (W : FunIn K mg "_law_bends" s__law_bends) (T : Blt mg) (D_law_low : Df P w K mg base "_law_low" 36 ["row"] (spLaLow K)) (D_law_minus : Df P w K mg base "_law_minus" 34 ["one", "two"] (spR2 K (fun p q => p - q))) (D_law_times : Df P w K mg base "_law_times" 34 ["one", "two"] (spR2 K (fun p q => p * q))) (D_law_over : Df P w K mg base "_law_over" 34 ["one", "two"] (spQ2 K)) : Df P w K mg base "_law_bends" 37 ["row"] (spLB K) := by
  obtain ⟨f, fd, F, hm⟩ := W
  refine ⟨f, fd, F.ok sc__law_bends (fun vs H Q E h => ?_) (fun cdv A outer s H vs Q E hr h => ?_), hm, F.kp, F.binds fun _ _ _ _ _ _ us hl => match us, hl with | [_], _ => rfl⟩
  · obtain ⟨x, qs, b, rfl, _⟩ := h
    rfl
  · obtain ⟨x, qs, b, rfl, hx, ht, zq, hb0, hb, hlen, h5, qZ, qN, qS⟩ := h
    have nd := sc__law_bends.nd
    have Lx : ∃ a us, x = .ref a ∧ SqT K H a us ∧ FrA K H us qs := hx
    obtain ⟨T2, h2, key⟩ : ∃ T, PSs (cxOf CX0 P w K mg base ["row", "numbers", "found", "turn", "j", "k", "under", "i"] "_law_bends" (defScope s__law_bends) f cdv A outer s H E).nox ((defBody s__law_bends).drop 1) T ∧
        ∀ H1, Same H H1 → at0 qs 0 ≠ 0 → T { nx := fun _ H' => Q .non H', rt := Q } [some x, none, none, none, none, none, none, none] H1 := by
      refine ⟨_, (pss_cons (ps_asg (pe_tup (pa_cons (pe_callTy call_list_of (by rfl) T.n_list (by decide +kernel) (pa_cons (pe_d D_law_low (hr.mono (by decide)) rfl (pa_cons (pv 0) pa_nil)) pa_nil)) (pa_cons (pe_lst pa_nil) pa_nil))) (pg_tup rfl (pgs_cons (pg_name (i := 1) nd rfl (Or.inr rfl)) (pgs_cons (pg_name (i := 2) nd rfl (Or.inl rfl) (Or.inr rfl)) pgs_nil))))
        (pss_cons (ps_for PassesOwn.never rfl (pi_range1 rfl T.n_range (pa_cons (pe_op op_sub (pe_callB call_len_seq (by rfl) T.n_len (by decide +kernel) (pa_cons (pv 0) pa_nil)) pe_int) pa_nil)) (pg_name (i := 3) nd rfl (Or.inl rfl) (Or.inr rfl)) (pss_cons (ps_set (i := 4) nd rfl (Or.inr rfl) (pe_op op_sub (pe_callB call_len_seq (by rfl) T.n_len (by decide +kernel) (pa_cons (pv 1) pa_nil)) pe_int))
        (pss_cons (ps_set (i := 5) nd rfl (Or.inr rfl) (pe_ix ix_list (pv 1) (pv 4) (fun _ _ => rfl)))
        (pss_cons (ps_expr (pe_bm PySem.F.plainAttrs_list PySem.F.slot_list_append PySem.F.type_list_append mt_append (pv 2) (pa_cons (pv 5) pa_nil)))
        (pss_cons (ps_if (pt_cmpR op_ge (pe_callB call_abs (by rfl) T.n_abs (by decide +kernel) (pa_cons (pe_ix ix_tup (pv 5) pe_int (fun _ _ => rfl)) pa_nil)) (pe_ix ix_tup (pv 5) pe_int (fun _ _ => rfl)) (nomark _)) (pss_one (ps_ret pe_non)) pss_nil)
        (pss_cons (ps_set (i := 6) nd rfl (Or.inr rfl) (pe_d D_law_minus (hr.mono (by decide)) rfl (pa_cons (pe_tup (pa_cons pe_int (pa_cons pe_int pa_nil))) (pa_cons (pe_d D_law_times (hr.mono (by decide)) rfl (pa_cons (pv 5) (pa_cons (pv 5) pa_nil))) pa_nil))))
        (pss_one (ps_set (i := 1) nd rfl (Or.inr rfl) (pe_lc (own := [("i", 7)]) rfl nd (pi_range1 rfl T.n_range (pa_cons (pv 4) pa_nil)) (blkOk_by (own := [("i", 7)]) (N := ["row", "numbers", "found", "turn", "j", "k", "under", "i"]) (sc := defScope s__law_bends) (by decide +kernel)) (fun _ _ _ _ _ => (pg_name (i := 7) nd rfl (Or.inl rfl) (Or.inr rfl))) (fun _ _ _ _ _ => pts_nil) (fun _ _ _ _ _ => (pe_d D_law_over (hr.mono (by decide)) rfl (pa_cons (pe_d D_law_minus (hr.mono (by decide)) rfl (pa_cons (pe_ix (ix_listK (K := K) rfl) (pv 1) (pv 7) (fun _ _ => rfl)) (pa_cons (pe_d D_law_times (hr.mono (by decide)) rfl (pa_cons (pv 5) (pa_cons (pe_ix (ix_listK (K := K) rfl) (pv 1) (pe_op op_sub (pv 4) (pv 7)) (fun _ _ => rfl)) pa_nil))) pa_nil))) (pa_cons (pv 6) pa_nil)))))))))))))
        (pss_one (ps_ret (pe_callTy call_tuple_of (by rfl) T.n_tuple (by decide +kernel) (pa_cons (pv 2) pa_nil)))))), ?_⟩
      intro H1 s1 h0
      obtain ⟨hl4, hlen5⟩ := h5 h0
      have hpos : 0 < qs.length := Nat.pos_of_ne_zero fun z => h0 (at0_out (by omega))
      refine ⟨x, rfl, x, qs, b, rfl, hx.mono (same_t s1), ht, h0, zq, hb0, hb, by omega, fun v2 H2 s2 hv2 => ?_⟩
      obtain ⟨a2, us2, rfl, ha2, hA2⟩ := hv2
      refine ⟨a2, us2, rfl, Or.inr ha2, fun p hp => ?_⟩
      have s3 := same_new (o := .lst us2) hp
      have e3 : upd H2 p (.lst us2) p = some (.lst us2) := upd_same
      have g3 := fra_mono (same_t s3) hA2
      have s13 := (s1.trans s2).trans s3
      generalize upd H2 p (.lst us2) = H3 at s3 e3 g3 s13
      refine ⟨Nat.zero_le _, fun r hr0 => ?_⟩
      have s4 := same_new (o := .lst []) hr0
      have e4 : upd H3 r (.lst []) r = some (.lst []) := upd_same
      have e4p := s4 _ _ e3
      have g4 := fra_mono (same_t s4) g3
      have s14 := s13.trans s4
      have hpr : p ≠ r := fun z => by rw [z, hr0] at e3; cases e3
      have hrH : H r = none := s13.free hr0
      generalize upd H3 r (.lst []) = H4 at s4 e4 e4p g4 s14
      refine ⟨sz_of 2 rfl (by decide), fun p5 hp5 => ?_⟩
      have s5 := same_new (o := .tup [V.ref p, V.ref r]) hp5
      have q5 : SqT K (upd H4 p5 (.tup [V.ref p, V.ref r])) p5 [V.ref p, V.ref r] := SqT.of upd_same
      have e5 := s5 _ _ e4
      have e5p := s5 _ _ e4p
      have g5 := fra_mono (same_t s5) g4
      have s15 := s14.trans s5
      generalize upd H4 p5 (.tup [V.ref p, V.ref r]) = H5 at s5 q5 e5 e5p g5 s15
      refine ⟨p5, _, rfl, q5, rfl, _, _, rfl, _, _, rfl, rfl, ?_⟩
      have hx5 := hx.mono (same_t s15)
      obtain ⟨ax, ux, ex, hax, hAx⟩ := hx5
      have Lax := hAx.length
      have hax' : SqL K H5 ax ux ∨ SqT K H5 ax ux := Or.inr hax
      refine ⟨x, rfl, ax, ux, by rw [ex], hax', _, _, rfl, rfl, ((qs.length - 1 : Nat) : Int), congrArg (fun z => [V.int z]) (by omega), by omega, by omega, for_range (n := qs.length - 1) (LbI K H qs x) ⟨p, r, us2, [], smul (1 / at0 qs 0) qs, [], none, none, none, none, rfl, s15, hrH, e5p, e5, hpr, g5, .nil, ?_, by rw [smul_len]; rfl, rfl, hl4, ?_⟩ ?_ ?_⟩
      · rw [at0_smul]
        grind
      · rw [fb_smul _ _ (by grind : 1 / at0 qs 0 ≠ 0), Nat.sub_zero]
        cases fb (qs.length - 1) qs <;> rfl
      · rintro t σ H6 hti ⟨p, r, acc, fs, l, bs, o3, o4, o5, o6, rfl, s6, hrn, ep, er, hpr, gl, gb, hl0, hlt, hbt, zl, hfb⟩
        have la := gl.length
        have lb := gb.length
        obtain ⟨bu, bl⟩ := bitsU_le (show t ≤ 3 by omega)
        have hl2 : 2 ≤ l.length := by omega
        have Lp : SqL K H6 p acc := SqL.of ep
        have Lp' : SqL K H6 p acc ∨ SqT K H6 p acc := Or.inl Lp
        refine ⟨V.ref p, rfl, p, acc, rfl, Lp', _, _, rfl, rfl, ?_⟩
        dsimp only []
        rw [show ((acc.length : Int) - 1) = ((l.length - 1 : Nat) : Int) by omega]
        obtain ⟨uk, huk, fk⟩ := gl.get' (at0_get (show l.length - 1 < l.length by omega))
        have hat : atI acc ((l.length - 1 : Nat) : Int) = some uk := atI_nat huk
        refine ⟨V.ref p, rfl, V.int ((l.length - 1 : Nat) : Int), rfl, p, acc, _, uk, rfl, rfl, Lp, hat, ?_⟩
        refine ⟨V.ref r, rfl, Or.inl ⟨rfl, _, SqL.of er⟩, uk, rfl, r, fs, uk, rfl, rfl, er, by rw [sizeLine_eq]; omega, ?_⟩
        have s7 : Same H (upd H6 r (.lst (fs ++ [uk]))) := fun c o e => by rw [upd_ne (ne_of_none e hrn)]; exact s6 _ _ e
        have ep7 : upd H6 r (.lst (fs ++ [uk])) p = some (.lst acc) := by rw [upd_ne hpr]; exact ep
        have er7 : upd H6 r (.lst (fs ++ [uk])) r = some (.lst (fs ++ [uk])) := upd_same
        have st7 := samet_lst er (ys := fs ++ [uk])
        have gl7 := fra_mono st7 gl
        have gb7 : FrA K (upd H6 r (.lst (fs ++ [uk]))) (fs ++ [uk]) (bs ++ [at0 l (l.length - 1)]) := (fra_mono st7 gb).append (Al.one (fk.mono st7))
        have fk7 := fk.mono st7
        generalize upd H6 r (.lst (fs ++ [uk])) = H7 at s7 ep7 er7 st7 gl7 gb7 fk7
        generalize hk : at0 l (l.length - 1) = k at fk7 gb7
        have zk : Qz (bitsU t) k := hk ▸ qs_at0 zl (by omega) _
        have hnl : qs.length - 1 - t = (l.length - 2) + 1 := by omega
        have hstep := fb_dn hl0 (show l.length = (l.length - 2) + 2 by omega)
        rw [hk] at hstep
        have fk8 := fk7
        obtain ⟨e, rfl, he⟩ := fk7
        have hat0 : atI [V.int k.num, V.int (k.den : Int)] 0 = some (V.int k.num) := rfl
        have hat1 : atI [V.int k.num, V.int (k.den : Int)] 1 = some (V.int (k.den : Int)) := rfl
        have ek : (if k.num < 0 then -k.num else k.num) = (k.num.natAbs : Int) := by split <;> omega
        refine ⟨V.ref e, rfl, e, _, 0, _, rfl, rfl, he, hat0, k.num, rfl, V.ref e, rfl, e, _, 1, _, rfl, rfl, he, hat1, _, _, rfl, rfl, _, rfl, ?_⟩
        rw [ek]
        refine tif (fun hc => ?_) (fun hc => ?_)
        · refine qN h0 ?_ _ s7
          rw [hfb, hnl, hstep, if_pos (abs_den.mp hc)]
          rfl
        have hk1 : ¬ 1 ≤ k * k := fun z => hc (abs_den.mpr z)
        rw [if_neg hk1] at hstep
        refine ⟨sz_of 2 rfl (by decide), fun p8 hp8 => ?_⟩
        have s8 := same_new (o := .tup [V.int 1, V.int 1]) hp8
        have q8 : SqT K (upd H7 p8 (.tup [V.int 1, V.int 1])) p8 [V.int 1, V.int 1] := SqT.of upd_same
        generalize upd H7 p8 (.tup [V.int 1, V.int 1]) = H8 at s8 q8
        have f1 : FrT K H8 (.ref p8) 1 := ⟨p8, rfl, q8⟩
        refine ⟨V.ref e, rfl, V.ref e, rfl, V.ref e, V.ref e, k, k, rfl, fk8.mono (same_t s8), fk8.mono (same_t s8), zk.mono (by omega), zk.mono (by omega), fun v9 H9 s9 hv9 => ?_⟩
        refine ⟨V.ref p8, v9, 1, k * k, rfl, f1.mono (same_t s9), hv9, qz1 (by decide), (Qz.mul zk zk).mono (by omega), fun v10 H10 s10 hv10 => ?_⟩
        have s710 := (s8.trans s9).trans s10
        have ep10 := s710 _ _ ep7
        have er10 := s710 _ _ er7
        have gl10 := fra_mono (same_t s710) gl7
        have gb10 := fra_mono (same_t s710) gb7
        have fk10 := fk8.mono (same_t s710)
        have s10' := s7.trans s710
        have Lp10 : SqL K H10 p acc := SqL.of ep10
        have zu : Qz (2 * bitsU t + 2) (1 - k * k) := (Qz.sub (qz1 (Nat.one_pos)) (Qz.mul zk zk)).mono (by omega)
        have hu0 : 1 - k * k ≠ 0 := by grind
        refine ⟨V.int ((l.length - 1 : Nat) : Int), rfl, ((l.length - 1 : Nat) : Int), rfl, by omega, by omega, fun D hD => lc_map (walk_range (lo := 0) (n := l.length - 1)) hD (by rw [sizeLine_eq]; omega) (fun j H' v => FrT K H' v (at0 (dn l) j)) (fun i H' H'' v e h => h.mono e) (fun _ _ => trivial) ?_ ?_⟩
        · rintro j y G1 G2 hj sg _ ⟨rfl, rfl⟩ Fin hF
          obtain ⟨w1, hw1, fw1⟩ := gl10.get' (at0_get (show j < l.length by omega))
          obtain ⟨w2, hw2, fw2⟩ := gl10.get' (at0_get (show l.length - 1 - j < l.length by omega))
          have st := same_t sg
          have z1 := qs_at0 zl (by omega) j
          have z2 := qs_at0 zl (by omega) (l.length - 1 - j)
          have i1 : atI acc (0 + (j : Int)) = some w1 := at_of (j := j) (by omega) hw1
          have i2 : atI acc (((l.length - 1 : Nat) : Int) - (0 + (j : Int))) = some w2 := at_of (j := l.length - 1 - j) (by omega) hw2
          have Lg : SqL K G2 p acc := sg.seq Lp10
          have ed : at0 (dn l) j = (at0 l j - k * at0 l (l.length - 1 - j)) / (1 - k * k) := by
            unfold dn
            rw [at0_smul, at0_nx hj, hl0, hk]
            grind
          refine ⟨rfl, ?_⟩
          refine ⟨V.ref p, rfl, V.int (0 + (j : Int)), rfl, p, acc, _, w1, rfl, rfl, Lg, i1, V.ref e, rfl, V.ref p, rfl, V.int ((l.length - 1 : Nat) : Int), rfl, V.int (0 + (j : Int)), rfl, _, _, rfl, rfl, p, acc, _, w2, rfl, rfl, Lg, i2, V.ref e, w2, k, _, rfl, fk10.mono st, fw2.mono st, zk.mono (by omega), z2.mono (by omega), fun v3 G3 s3 hv3 => ?_⟩
          refine ⟨w1, v3, _, _, rfl, (fw1.mono st).mono (same_t s3), hv3, z1.mono (by omega), (Qz.mul zk z2).mono (by omega), fun v4 G4 s4 hv4 => ?_⟩
          refine ⟨v10, rfl, v4, v10, _, _, rfl, hv4, ((hv10.mono st).mono (same_t s3)).mono (same_t s4), hu0, (Qz.sub z1 (Qz.mul zk z2)).mono (by omega), zu.mono (by omega), fun v5 G5 s5 hv5 => ?_⟩
          refine hF _ _ ((s3.trans s4).trans s5) ?_
          rw [ed]
          exact hv5
        · intro H11 acc11 s11 hacc11 hlen11 hel11
          have hA11 : FrA K H11 acc11 (dn l) := by
            refine Al.of (by rw [dn_len]; omega) fun i v g h1 h2 => ?_
            have := hel11 i v h1
            rw [at0_some h2] at this
            exact this
          have hDr : D ≠ r := fun z => by rw [z] at hD; rw [hD] at er10; cases er10
          have hkk : at0 l (l.length - 1) * at0 l (l.length - 1) < 1 := by rw [hk]; grind
          refine ⟨D, r, acc11, fs ++ [V.ref e], dn l, bs ++ [k], _, _, _, _, rfl, s10'.trans s11, hrn, hacc11, s11 _ _ er10, hDr, hA11, fra_mono (same_t s11) gb10, dn_head hl0 hl2 hkk, by rw [dn_len]; omega, by rw [List.length_append, hbt]; rfl, ?_, ?_⟩
          · exact qs_dn zl (by omega) hl0 (by rw [hk]; exact hk1)
          · rw [hfb, hnl, hstep, show qs.length - 1 - (t + 1) = l.length - 2 by omega]
            cases fb (l.length - 2) (dn l) with
            | none => rfl
            | some cs =>
              show some (bs ++ (k :: cs)) = some ((bs ++ [k]) ++ cs)
              rw [List.append_assoc]
              rfl
      · rintro σ H6 ⟨p, r, acc, fs, l, bs, o3, o4, o5, o6, rfl, s6, hrn, ep, er, hpr, gl, gb, hl0, hlt, hbt, zl, hfb⟩
        have lb := gb.length
        have hb' : fb (qs.length - 1) qs = some bs := by
          rw [hfb, Nat.sub_self]
          show some (bs ++ []) = some bs
          rw [List.append_nil]
        refine ⟨V.ref r, rfl, r, fs, rfl, Or.inl ⟨SqL.of er, fun t' ht' => ?_⟩⟩
        have s7 := same_new (o := .tup fs) ht'
        exact qS h0 bs hb' _ _ (s6.trans s7) ⟨t', fs, rfl, SqT.of upd_same, fra_mono (same_t s7) gb⟩
    refine ⟨_, (pss_cons (ps_if (PW.pt (pw_or (pt_cmpR (op_eqD (hu64 hr)) (pv 0) (pe_tup pa_nil) (nomark _)) (pw_or1 (pt_cmpR op_eq (pe_ix ix_tup (pe_ix ix_tup (pv 0) pe_int (fun _ _ => rfl)) pe_int (fun _ _ => rfl)) pe_int (nomark _))))) (pss_one (ps_ret pe_non)) pss_nil) h2), ?_⟩
    refine ⟨x, rfl, sz_of 0 rfl (by decide), fun p0 hp0 => ?_⟩
    have s0 := same_new (o := .tup []) hp0
    have q0 : SqT K (upd H p0 (.tup [])) p0 [] := SqT.of upd_same
    generalize upd H p0 (.tup []) = H0 at s0 q0
    refine rEqD_rw (hx.mono (same_t s0)) (rwt_nil q0) ⟨_, rfl, ?_⟩
    refine tif (fun hz => ?_) (fun hz => ?_)
    · subst hz
      exact qZ rfl _ s0
    obtain ⟨a, us, rfl, ha, hA⟩ := hx
    obtain ⟨u, hu, hf⟩ := hA.get' (at0_get (List.length_pos_iff.mpr hz))
    obtain ⟨e, rfl, he⟩ := hf
    have hat : atI us 0 = some (V.ref e) := atI_nat (j := 0) hu
    have hat2 : atI [V.int (at0 qs 0).num, V.int ((at0 qs 0).den : Int)] 0 = some (V.int (at0 qs 0).num) := rfl
    refine ⟨V.ref a, rfl, a, us, 0, V.ref e, rfl, rfl, same_seqT s0 ha, hat, e, _, 0, _, rfl, rfl, same_seqT s0 he, hat2, rfl, _, rfl, ?_⟩
    refine tif (fun h0 => ?_) (fun h0 => ?_)
    · exact qZ (Rat.num_eq_zero.mp (V.int.inj h0)) _ s0
    · exact key _ s0 fun z => h0 (by rw [z]; rfl)
end
end Vx
namespace Vx
def strR (c : Rat) (l : List Rat) : List Rat := (List.range l.length).map fun i => at0 l i * c ^ i
theorem str_len (c : Rat) (l : List Rat) : (strR c l).length = l.length := by
  unfold strR
  rw [List.length_map, List.length_range]
theorem at0_str (c : Rat) (l : List Rat) (i : Nat) : at0 (strR c l) i = at0 l i * c ^ i := by
  by_cases h : i < l.length
  · exact at0_map h
  · rw [at0_out (by rw [str_len]; omega), at0_out (by omega)]
    grind
theorem str_cons (c d : Rat) (l : List Rat) : strR c (d :: l) = d :: smul c (strR c l) := by
  refine ext0 (by rw [str_len, List.length_cons, List.length_cons, smul_len, str_len]) fun i _ => ?_
  rw [at0_str]
  cases i with
  | zero =>
    show d * c ^ 0 = d
    rw [Rat.pow_zero]
    grind
  | succ i =>
    show at0 l i * c ^ (i + 1) = at0 (smul c (strR c l)) i
    rw [at0_smul, at0_str, Rat.pow_succ]
    grind
theorem ev_str (c : Rat) : ∀ (l : List Rat) (z : Rat), ev (strR c l) z = ev l (c * z)
  | [], z => rfl
  | d :: l, z => by
    rw [str_cons]
    show d + z * ev (smul c (strR c l)) z = d + c * z * ev l (c * z)
    have e : ev (smul c (strR c l)) z = c * ev (strR c l) z := ev_scale _ _ _
    rw [e, ev_str c l z]
    grind
theorem str_one (l : List Rat) : strR 1 l = l := ext0 (str_len _ _) fun i _ => by
  rw [at0_str]
  have : ∀ n : Nat, (1 : Rat) ^ n = 1 := fun n => by
    induction n with
    | zero => exact Rat.pow_zero _
    | succ n ih => rw [Rat.pow_succ, ih]; grind
  rw [this]
  grind
theorem pow_ne {c : Rat} (h : c ≠ 0) : ∀ n : Nat, c ^ n ≠ 0
  | 0 => by rw [Rat.pow_zero]; decide
  | n + 1 => by
    rw [Rat.pow_succ]
    intro e
    rcases Rat.mul_eq_zero.mp e with z | z
    · exact pow_ne h n z
    · exact h z
theorem tr_of_at {l : List Rat} (h : l ≠ [] → at0 l (l.length - 1) ≠ 0) : Tr l := fun hn => by
  have hp := List.length_pos_iff.mpr hn
  have e := at0_get (l := l) (i := l.length - 1) (by omega)
  rw [List.getLast_eq_getElem]
  rw [List.getElem?_eq_getElem (by omega)] at e
  rw [Option.some.inj e]
  exact h hn
theorem str_ne {c : Rat} {l : List Rat} (h : l ≠ []) : strR c l ≠ [] := fun z => by
  have := str_len c l
  rw [z] at this
  exact h (List.eq_nil_of_length_eq_zero this.symm)
theorem tr_str {c : Rat} {l : List Rat} (hc : c ≠ 0) (ht : Tr l) : Tr (strR c l) := tr_of_at fun hn => by
  rw [str_len, at0_str]
  have hl : l ≠ [] := fun z => hn (by rw [z]; rfl)
  intro e
  rcases Rat.mul_eq_zero.mp e with z | z
  · exact tr_at ht hl z
  · exact pow_ne hc _ z
theorem good_str {c : Rat} {p q r : List Rat} (h : ∀ z, ev r z = ev p z * ev q z) : Good (at0 (strR c r)) ↔ (Good (at0 (strR c p)) ∧ Good (at0 (strR c q))) := good_prod fun z => by
  rw [ev_str, ev_str, ev_str, h]
theorem pow_int (n : Int) (i : Nat) : ((n ^ i : Int) : Rat) = (n : Rat) ^ i := by push_cast; rfl
theorem natAbs_pow_le {n : Int} {e : Nat} (h : n.natAbs ≤ 2 ^ e) : ∀ i : Nat, (n ^ i).natAbs ≤ 2 ^ (e * i)
  | 0 => by rw [Int.pow_zero]; exact Nat.one_le_two_pow
  | i + 1 => by
    rw [Int.pow_succ, Int.natAbs_mul, Nat.mul_add, Nat.mul_one, Nat.pow_add]
    exact Nat.mul_le_mul (natAbs_pow_le h i) h
theorem cd_str {a b e n : Nat} {c : Rat} {l : List Rat} (h : Cd a b l) (hc : Qz e c) (hl : l.length ≤ n + 1) : Cd (a + e * n) (b + e * n) (strR c l) := by
  obtain ⟨D, h0, h1, h2⟩ := h
  have hd := c.den_pos
  have hde : c.den ≤ 2 ^ e := Nat.le_of_lt hc.2
  have hne : c.num.natAbs ≤ 2 ^ e := Nat.le_of_lt hc.1
  have pd : c.den ^ n ≤ 2 ^ (e * n) := by
    rw [Nat.pow_mul]
    exact Nat.pow_le_pow_left hde n
  have ek : c * (c.den : Rat) = (c.num : Rat) := by
    have e : c = (c.num : Rat) / ((c.den : Int) : Rat) := by
      rw [← Rat.divInt_eq_div]
      exact (fr_self c).symm
    have h3 : ((c.den : Int) : Rat) ≠ 0 := by exact_mod_cast (show (c.den : Int) ≠ 0 by omega)
    have key : ∀ c n d : Rat, d ≠ 0 → c = n / d → c * d = n := by
      intro c n d a b
      grind
    have := key _ _ _ h3 e
    push_cast at this
    exact this
  have pk : ∀ i : Nat, c ^ i * (c.den : Rat) ^ i = (c.num : Rat) ^ i := fun i => by
    induction i with
    | zero => rw [Rat.pow_zero, Rat.pow_zero, Rat.pow_zero]; grind
    | succ i ih =>
      rw [Rat.pow_succ, Rat.pow_succ, Rat.pow_succ, ← ih, ← ek]
      grind
  refine ⟨D * c.den ^ n, Nat.mul_pos h0 (Nat.pow_pos hd), ?_, fun x hx => ?_⟩
  · rw [Nat.pow_add]
    exact Nat.mul_le_mul h1 pd
  · unfold strR at hx
    obtain ⟨i, hi, rfl⟩ := List.mem_map.mp hx
    have hin : i ≤ n := by
      have := List.mem_range.mp hi
      omega
    obtain ⟨m, e1, g1⟩ := h2 _ (at0_mem (List.mem_range.mp hi))
    refine ⟨m * (c.num ^ i * (c.den : Int) ^ (n - i)), ?_, ?_⟩
    · push_cast
      have s1 : (c.den : Rat) ^ n = (c.den : Rat) ^ i * (c.den : Rat) ^ (n - i) := by
        rw [← rpow_add, show i + (n - i) = n by omega]
      have q1 : ((c.num ^ i : Int) : Rat) = (c.num : Rat) ^ i := pow_int _ _
      have q2 : (((c.den : Int) ^ (n - i) : Int) : Rat) = (c.den : Rat) ^ (n - i) := by
        rw [pow_int]
        push_cast
        rfl
      have q3 : ((c.den ^ n : Nat) : Rat) = (c.den : Rat) ^ n := by
        have : ((c.den ^ n : Nat) : Int) = (c.den : Int) ^ n := by push_cast; rfl
        have h4 : ((c.den ^ n : Nat) : Rat) = (((c.den : Int) ^ n : Int) : Rat) := by
          rw [← this]
          push_cast
          rfl
        rw [h4, pow_int]
        push_cast
        rfl
      try rw [q3]
      try rw [q1]
      try rw [q2]
      rw [s1, ← pk i, ← e1]
      grind
    · rw [Int.natAbs_mul, Int.natAbs_mul, Nat.pow_add]
      refine Nat.mul_le_mul g1 ?_
      have p1 := natAbs_pow_le hne i
      have p2 : ((c.den : Int) ^ (n - i)).natAbs ≤ 2 ^ (e * (n - i)) := natAbs_pow_le (n := (c.den : Int)) (by rw [Int.natAbs_natCast]; exact hde) (n - i)
      have s2 : e * n = e * i + e * (n - i) := by
        rw [← Nat.mul_add, show i + (n - i) = n by omega]
      rw [s2, Nat.pow_add]
      exact Nat.mul_le_mul p1 p2
theorem qz_pow {e : Nat} {c : Rat} (h : Qz e c) (h0 : 0 < e) : ∀ i : Nat, Qz (e * i + 1) (c ^ i)
  | 0 => by rw [Rat.pow_zero]; exact qz1 (by omega)
  | i + 1 => by
    rw [Rat.pow_succ]
    refine (Qz.mul (qz_pow h h0 i) h).mono ?_
    rw [Nat.mul_add, Nat.mul_one]
    omega
/-! factors -/
theorem str_two (c x : Rat) : strR c [1, x] = [1, x * c] := by
  rw [str_cons, str_cons]
  show [1, c * x] = _
  rw [Rat.mul_comm]
theorem str_three (c m s : Rat) : strR c [1, m, s] = [1, m * c, s * c * c] := by
  rw [str_cons, str_cons, str_cons]
  show [1, c * m, c * (c * s)] = _
  rw [Rat.mul_comm c m, show c * (c * s) = s * c * c by grind]
theorem sq_lt_one {u : Rat} (h : 0 < u) : u * u < 1 ↔ u < 1 := by
  constructor
  · intro z
    refine Classical.byContradiction fun w => ?_
    have := mul_le (Rat.le_of_lt h) (show 1 ≤ u by grind)
    grind
  · intro z
    have := Rat.mul_lt_mul_of_pos_left z h
    grind
theorem div_lt_one {a s : Rat} (hs : 0 < s) : a / s < 1 ↔ a < s := by
  obtain ⟨q, rfl⟩ : ∃ q, a = q * s := ⟨a / s, by grind⟩
  have e : q * s / s = q := by grind
  rw [e]
  constructor
  · intro z
    have := Rat.mul_lt_mul_of_pos_left z hs
    grind
  · intro z
    refine Classical.byContradiction fun w => ?_
    have := mul_le (Rat.le_of_lt hs) (show 1 ≤ q by grind)
    grind
/-- 1 - d / z, of the size s of z -/
theorem quick_two {z s y : Rat} (hy : 0 < y) (hs : 0 < s) (e : z = s ∨ z = -s) : Good (at0 (strR y [1, -1 / z])) ↔ y < s := by
  rw [str_two, good_two]
  have hp : 0 < y / s := by
    have := Rat.mul_pos hy (Rat.inv_pos.mpr hs)
    grind
  have e2 : (-1 / z * y) * (-1 / z * y) = (y / s) * (y / s) := by
    rcases e with rfl | rfl
    · grind
    · have : s ≠ 0 := by grind
      grind
  rw [e2, sq_lt_one hp, div_lt_one hs]
theorem quick_three {t c y : Rat} (hy : 0 < y) (ht : 0 < t) (hc : c * c ≤ 1) : Good (at0 (strR y [1, -2 * (t * c), t * t])) ↔ y < 1 / t := by
  rw [str_three, show -2 * (t * c) * y = -2 * (t * y * c) by grind, show t * t * y * y = t * y * (t * y) by grind, good_three hc, sq_lt_one (Rat.mul_pos ht hy)]
  have h1 : 0 < 1 / t := by
    have := Rat.inv_pos.mpr ht
    grind
  rw [← div_lt_one h1, show y / (1 / t) = t * y by grind]
theorem cd_pair4 {n m k : Int} (hn : 0 < n ∧ n ≤ 11) (hm : 0 < m ∧ m ≤ 10) (hk : -4 ≤ k ∧ k ≤ 4) {t c : Rat} (ht : t = Rat.divInt n m) (hc : c = Rat.divInt k 4) : Cd 9 10 [1, -2 * (t * c), t * t] ∧ c * c ≤ 1 ∧ 0 < t := by
  rw [Rat.divInt_eq_div] at ht hc
  have hmr : (m : Rat) ≠ 0 := by exact_mod_cast (show m ≠ 0 by omega)
  have hmp : (0 : Rat) < (m : Rat) := by exact_mod_cast hm.1
  have hnp : (0 : Rat) < (n : Rat) := by exact_mod_cast hn.1
  have e6 : ((4 : Int) : Rat) = 4 := rfl
  rw [e6] at hc
  have t1 : t * (m : Rat) = (n : Rat) := by grind
  have c1 : c * 4 = (k : Rat) := by grind
  have bm : m * m ≤ 100 := by
    have := Int.mul_le_mul hm.2 hm.2 (by omega) (by omega)
    omega
  have bp : 0 < m * m := Int.mul_pos hm.1 hm.1
  have bn : n * n ≤ 121 := by
    have := Int.mul_le_mul hn.2 hn.2 (by omega) (by omega)
    omega
  have bnp : 0 < n * n := Int.mul_pos hn.1 hn.1
  have bnm : (n * m).natAbs ≤ 110 := by
    rw [Int.natAbs_mul]
    exact Nat.mul_le_mul (show n.natAbs ≤ 11 by omega) (show m.natAbs ≤ 10 by omega)
  have bnk : (n * m * k).natAbs ≤ 440 := by
    rw [Int.natAbs_mul]
    exact Nat.mul_le_mul bnm (show k.natAbs ≤ 4 by omega)
  refine ⟨⟨(2 * (m * m)).toNat, by omega, by omega, fun x hx => ?_⟩, ?_, ?_⟩
  · have hD : (((2 * (m * m)).toNat : Nat) : Rat) = 2 * ((m : Rat) * (m : Rat)) := by
      have : (((2 * (m * m)).toNat : Nat) : Int) = 2 * (m * m) := by omega
      have h2 : (((2 * (m * m)).toNat : Nat) : Rat) = ((2 * (m * m) : Int) : Rat) := by exact_mod_cast this
      rw [h2]
      push_cast
      rfl
    rw [hD]
    simp only [List.mem_cons, List.not_mem_nil, or_false] at hx
    rcases hx with rfl | rfl | rfl
    · exact ⟨2 * (m * m), by push_cast; grind, by omega⟩
    · exact ⟨-(n * m * k), by push_cast; grind, by omega⟩
    · exact ⟨2 * (n * n), by push_cast; grind, by omega⟩
  · have hk2 : k * k ≤ 16 := by
      have e : k * k = ((k.natAbs * k.natAbs : Nat) : Int) := Int.natAbs_mul_self.symm
      have := Nat.mul_le_mul (show k.natAbs ≤ 4 by omega) (show k.natAbs ≤ 4 by omega)
      omega
    have h3 : (k : Rat) * (k : Rat) ≤ 16 := by exact_mod_cast hk2
    have key : ∀ c k : Rat, c * 4 = k → k * k ≤ 16 → c * c ≤ 1 := by
      intro c k a b
      subst a
      grind
    exact key _ _ c1 h3
  · have := Rat.mul_pos hnp (Rat.inv_pos.mpr hmp)
    rw [ht]
    grind
end Vx
-- big
set_option Elab.async false
set_option linter.all false
set_option maxRecDepth 100000
set_option maxHeartbeats 4000000
namespace Vx
open PySem PySem.Spec PyProof.Rows L2
local macro_rules | `(tactic| walk_at "cl") => `(tactic| first | assumption | exact Bz.mono (Bz.mul (by assumption) (by assumption)) (by decide) | rfl | omega | exact sz_of 0 rfl (by decide) | exact sz_of 1 rfl (by decide) | exact sz_of 2 rfl (by decide) | exact sz_of 3 rfl (by decide) | exact cmuly (by assumption) (by assumption) (by decide) | exact Bz.mono (Bz.mul (by assumption) (by assumption)) (by decide) | decide)
local macro_rules | `(tactic| walk_at "ex") => `(tactic| ((show Exists _); first | apply @Exists.intro V | apply @Exists.intro Int | apply @Exists.intro Addr | apply @Exists.intro (List V) | apply @Exists.intro Nat | apply @Exists.intro Str | apply @Exists.intro Bool | apply @Exists.intro (Option V) | apply @Exists.intro String | apply @Exists.intro Rat | apply @Exists.intro (List Rat)))
local macro_rules | `(tactic| walk_at "rd") => `(tactic| ((repeat (first | (walk_at "ex") | (apply And.intro; (focus (walk_at "cl"))))); (try dsimp only [])))
local macro_rules | `(tactic| walk_at "r0") => `(tactic| (repeat (first | (walk_at "ex") | (apply And.intro; (focus (walk_at "cl"))))))
section
variable {P : Program} {w : World} {K : PySem.W.Frag} {mg : Str → Option Value} {base : Heap}
/-- common_factor -/
def spCf (K : PySem.W.Frag) : Sp := fun vs H Q _ => ∃ (l : Addr) (ns : List Int), vs = [.ref l] ∧ SqL K H l (ns.map V.int) ∧ ∀ g : Nat, (∀ n ∈ ns, (g : Int) ∣ n) → ((∃ n ∈ ns, n ≠ 0) → 0 < g) → (∀ b, (∀ n ∈ ns, Bz b n) → Bz b (g : Int)) → Q (.int (g : Int)) H
theorem sc_common_factor : FnScope ["numbers", "part", "number"] ["numbers"] (defScope s_common_factor) := ⟨rfl, rfl, rfl, by decide +kernel, rfl, by decide +kernel, by decide +kernel⟩
theorem d_common_factor (W : FunIn K mg "common_factor" s_common_factor) (T : Blt mg) : Df P w K mg base "common_factor" 33 ["numbers"] (spCf K) := by
  obtain ⟨f, fd, F, hm⟩ := W
  refine ⟨f, fd, F.ok sc_common_factor (fun vs H Q E h => ?_) (fun cdv A outer s H vs Q E hr h => ?_), hm, F.kp, F.binds fun _ _ _ _ _ _ us hl => match us, hl with | [_], _ => rfl⟩
  · obtain ⟨l, ns, rfl, _⟩ := h
    rfl
  · obtain ⟨l, ns, rfl, hl, q⟩ := h
    have nd := sc_common_factor.nd
    refine ⟨_, (pss_cons (ps_set (i := 1) nd rfl (Or.inl rfl) pe_int)
        (pss_cons (ps_for PassesOwn.never rfl (pi_list (pv 0)) (pg_name (i := 2) nd rfl (Or.inl rfl) (Or.inr rfl)) (pss_one (ps_set (i := 1) nd rfl (Or.inl rfl) (pe_callBfun cr_gcd (by rfl) T.g_gcd (pa_cons (pv 1) (pa_cons (pv 2) pa_nil))))))
        (pss_one (ps_ret (pv 1))))), ?_⟩
    refine ⟨V.ref l, rfl, l, rfl, ⟨_, hl⟩, for_it (walk_list (K := K) (a := l) (xs := ns.map V.int)) (fun i σ H' => ∃ (g : Nat) (o : Option V), σ = [some (.ref l), some (.int (g : Int)), o] ∧ H' = H ∧ (∀ j, j < i → ∀ n, ns[j]? = some n → (g : Int) ∣ n) ∧ ((∃ j n, j < i ∧ ns[j]? = some n ∧ n ≠ 0) → 0 < g) ∧ ∀ b, (∀ n ∈ ns, Bz b n) → Bz b (g : Int)) ⟨0, none, rfl, rfl, fun j hj => absurd hj (Nat.not_lt_zero _), fun ⟨j, _, hj, _⟩ => absurd hj (Nat.not_lt_zero _), fun b _ => Nat.two_pow_pos b⟩ (fun i σ H' _ ⟨_, _, _, e, _⟩ => by rw [e]; exact hl) ?_ ?_⟩
    · rintro i u σ H1 _ hi ⟨g, o, rfl, rfl, hd, hp, hb⟩ ⟨rfl, hu⟩
      rw [List.getElem?_map] at hu
      obtain ⟨n, hn, rfl⟩ := Option.map_eq_some_iff.mp hu
      refine ⟨V.int (g : Int), rfl, V.int n, rfl, _, _, rfl, ?_⟩
      refine ⟨Nat.gcd g n.natAbs, _, rfl, rfl, fun j hj m hm => ?_, fun hz => ?_, fun b hbb => ?_⟩
      · have d1 : ((Nat.gcd g n.natAbs : Nat) : Int) ∣ (g : Int) := Int.ofNat_dvd.mpr (Nat.gcd_dvd_left _ _)
        have d2 : ((Nat.gcd g n.natAbs : Nat) : Int) ∣ n := Int.ofNat_dvd_left.mpr (Nat.gcd_dvd_right _ _)
        rcases Nat.lt_or_eq_of_le (Nat.le_of_lt_succ hj) with hj | rfl
        · exact Int.dvd_trans d1 (hd j hj m hm)
        · rw [hn] at hm
          cases hm
          exact d2
      · obtain ⟨j, m, hj, hm, hm0⟩ := hz
        rcases Nat.lt_or_eq_of_le (Nat.le_of_lt_succ hj) with hj | rfl
        · exact Nat.gcd_pos_of_pos_left _ (hp ⟨j, m, hj, hm, hm0⟩)
        · rw [hn] at hm
          cases hm
          exact Nat.gcd_pos_of_pos_right _ (by omega)
      · by_cases h0 : n = 0
        · subst h0
          show Bz b ((Nat.gcd g 0 : Nat) : Int)
          rw [Nat.gcd_zero_right]
          exact hb b hbb
        · have h1 : Nat.gcd g n.natAbs ≤ n.natAbs := Nat.gcd_le_right _ (by omega)
          have h2 : Bz b n := hbb n (List.mem_of_getElem? hn)
          exact Nat.lt_of_le_of_lt (by rw [Int.natAbs_natCast]; exact h1) h2
    · rintro σ H1 ⟨g, o, rfl, rfl, hd, hp, hb⟩
      rw [List.length_map] at hd hp
      refine ⟨_, rfl, q g (fun n hn => ?_) (fun ⟨n, hn, h0⟩ => ?_) hb⟩
      · obtain ⟨j, hj⟩ := List.mem_iff_getElem?.mp hn
        exact hd j (List.getElem?_eq_some_iff.mp hj).1 n hj
      · obtain ⟨j, hj⟩ := List.mem_iff_getElem?.mp hn
        exact hp ⟨j, n, (List.getElem?_eq_some_iff.mp hj).1, hj, h0⟩
/-- divided -/
def spDvd (K : PySem.W.Frag) : Sp := fun vs H Q _ => ∃ (l : Addr) (ns : List Int) (b : Nat), vs = [.ref l] ∧ SqL K H l (ns.map V.int) ∧ (∀ n ∈ ns, Bz b n) ∧ b ≤ 4000000 ∧ (∃ n ∈ ns, n ≠ 0) ∧ ns.length < 1000 ∧
  ∀ (p : Addr) (ms : List Int) (c : Rat) H', H p = none → Same H H' → H' p = some (.lst (ms.map V.int)) → c ≠ 0 → toR ms = smul c (toR ns) → (∀ m ∈ ms, Bz b m) → ms.length = ns.length → Q (.ref p) H'
theorem sc_divided : FnScope ["numbers", "part", "number"] ["numbers"] (defScope s_divided) := ⟨rfl, rfl, rfl, by decide +kernel, rfl, by decide +kernel, by decide +kernel⟩
theorem d_divided (W : FunIn K mg "divided" s_divided) (sy : Sys base) (hP : P.given.tree = none) (Dcommon_factor : Df P w K mg base "common_factor" 33 ["numbers"] (spCf K)) : Df P w K mg base "divided" 34 ["numbers"] (spDvd K) := by
  obtain ⟨f, fd, F, hm⟩ := W
  refine ⟨f, fd, F.ok sc_divided (fun vs H Q E h => ?_) (fun cdv A outer s H vs Q E hr h => ?_), hm, F.kp, F.binds fun _ _ _ _ _ _ us hl => match us, hl with | [_], _ => rfl⟩
  · obtain ⟨l, ns, b, rfl, _⟩ := h
    rfl
  · obtain ⟨l, ns, b, rfl, hl, zb, hb, hn0, hlen, q⟩ := h
    have nd := sc_divided.nd
    refine ⟨_, (pss_cons (ps_set (i := 1) nd rfl (Or.inr rfl) (pe_d Dcommon_factor (hr.mono (by decide)) rfl (pa_cons (pv 0) pa_nil)))
        (pss_one (ps_ret (pe_lc (own := [("number", 2)]) rfl nd (pi_list (pv 0)) (blkOk_by (own := [("number", 2)]) (N := ["numbers", "part", "number"]) (sc := defScope s_divided) (by decide +kernel)) (fun _ _ _ _ _ => (pg_name (i := 2) nd rfl (Or.inl rfl) (Or.inr rfl))) (fun _ _ _ _ _ => pts_nil) (fun _ _ _ _ _ => (pe_op (op_fdivY sy (hr.mono (by decide)) hP ⟨_, _, rfl, rfl, rfl, rfl, rfl⟩) (pv 2) (pv 1))))))), ?_⟩
    refine ⟨V.ref l, rfl, l, ns, rfl, hl, fun g g1 g2 g3 => ?_⟩
    have g0 : 0 < g := g2 hn0
    have hgi : (g : Int) ≠ 0 := by omega
    have zg : Bz 4000000 (g : Int) := (g3 b zb).mono hb
    have c1 : ∀ n : Int, CDivY n (g : Int) := fun n => cdivw hgi zg (by decide)
    refine ⟨V.ref l, rfl, l, rfl, ⟨_, hl⟩, fun D hD => lc_map (walk_list (K := K) (a := l) (xs := ns.map V.int)) hD (by rw [List.length_map, sizeLine_eq]; omega) (fun i _ v => ∃ c, ns[i]? = some c ∧ v = .int (c.fdiv (g : Int))) (fun _ _ _ _ _ h => h) (fun H1 s1 => s1.seq hl) ?_ ?_⟩
    · rintro i u H1 H2 hi s1 _ ⟨rfl, hu⟩ Fin hF
      rw [List.getElem?_map] at hu
      obtain ⟨n, hn, rfl⟩ := Option.map_eq_some_iff.mp hu
      have c2 := c1 n
      walk_at "rd"
      exact hF _ _ (Same.refl _) ⟨n, hn, rfl⟩
    · intro H1 acc s1 hacc hlen1 hel
      have hex : acc = (ns.map fun n => n.fdiv (g : Int)).map V.int := by
        refine List.ext_getElem? fun i => ?_
        rw [List.length_map] at hlen1
        by_cases hi : i < acc.length
        · obtain ⟨c, hc, hv⟩ := hel i _ (List.getElem?_eq_getElem hi)
          rw [List.getElem?_eq_getElem hi, hv, List.getElem?_map, List.getElem?_map, hc]
          rfl
        · rw [List.getElem?_eq_none (by omega), List.getElem?_eq_none (by simp only [List.length_map]; omega)]
      rw [hex] at hacc
      have hr : (1 : Rat) / ((g : Int) : Rat) ≠ 0 := by
        have : ((g : Int) : Rat) ≠ 0 := by exact_mod_cast hgi
        grind
      refine q D _ (1 / ((g : Int) : Rat)) H1 hD s1 hacc hr (toR_div hgi g1) (fun m hm => ?_) (List.length_map _)
      obtain ⟨n, hn, rfl⟩ := List.mem_map.mp hm
      unfold Bz
      rw [Int.fdiv_eq_ediv_of_nonneg _ (by omega)]
      exact Nat.lt_of_le_of_lt (Int.natAbs_ediv_le_natAbs _ _) (zb n hn)
end
end Vx
-- big
set_option Elab.async false
set_option linter.all false
set_option maxRecDepth 100000
set_option maxHeartbeats 4000000
namespace Vx
open PySem PySem.Spec PyProof.Rows L2
local macro_rules | `(tactic| walk_at "cl") => `(tactic| first | assumption | exact Bz.mono (Bz.mul (by assumption) (by assumption)) (by decide) | rfl | omega | exact sz_of 0 rfl (by decide) | exact sz_of 1 rfl (by decide) | exact sz_of 2 rfl (by decide) | exact sz_of 3 rfl (by decide) | exact cmuly (by assumption) (by assumption) (by decide) | exact Bz.mono (Bz.mul (by assumption) (by assumption)) (by decide) | decide)
local macro_rules | `(tactic| walk_at "ex") => `(tactic| ((show Exists _); first | apply @Exists.intro V | apply @Exists.intro Int | apply @Exists.intro Addr | apply @Exists.intro (List V) | apply @Exists.intro Nat | apply @Exists.intro Str | apply @Exists.intro Bool | apply @Exists.intro (Option V) | apply @Exists.intro String | apply @Exists.intro Rat | apply @Exists.intro (List Rat)))
local macro_rules | `(tactic| walk_at "rd") => `(tactic| ((repeat (first | (walk_at "ex") | (apply And.intro; (focus (walk_at "cl"))))); (try dsimp only [])))
local macro_rules | `(tactic| walk_at "r0") => `(tactic| (repeat (first | (walk_at "ex") | (apply And.intro; (focus (walk_at "cl"))))))
theorem sq_int {f z : Int} : ((f : Rat) * (f : Rat) ≤ (z : Rat) * (z : Rat)) ↔ f.natAbs ≤ z.natAbs := by
  have e : ∀ x : Int, x * x = ((x.natAbs * x.natAbs : Nat) : Int) := fun x => Int.natAbs_mul_self.symm
  have h1 : ((f : Rat) * (f : Rat) ≤ (z : Rat) * (z : Rat)) ↔ f * f ≤ z * z := by
    constructor
    · intro h
      exact_mod_cast h
    · intro h
      exact_mod_cast h
  rw [h1, e f, e z]
  constructor
  · intro h
    refine Classical.byContradiction fun q => ?_
    have := Nat.mul_lt_mul'' (Nat.lt_of_not_le q) (Nat.lt_of_not_le q)
    omega
  · intro h
    have := Nat.mul_le_mul h h
    omega
theorem cutV_init {xs : List V} (h : 0 < xs.length) : cutV xs none (some (-1)) = xs.take (xs.length - 1) := by
  unfold cutV
  have e : HT.sIx xs.length xs.length (some (-1)) = xs.length - 1 := by
    show (if (-1 : Int) < 0 then (-1 + (xs.length : Int)).toNat else min (-1 : Int).toNat xs.length) = _
    rw [if_pos (by decide)]
    omega
  rw [e, HT.sIx_none, List.drop_zero, Nat.sub_zero]
/-- the next numbers, as whole ones -/
def nxI (ns : List Int) : List Int := (List.range (ns.length - 1)).map fun i => ns.getD 0 0 * ns.getD i 0 - ns.getD (ns.length - 1) 0 * ns.getD (ns.length - 1 - i) 0
theorem nxI_toR (ns : List Int) : toR (nxI ns) = nx (toR ns) := ext0 (by rw [toR_len, nx_len, toR_len]; unfold nxI; rw [List.length_map, List.length_range]) fun i hi => by
  have hi' : i < ns.length - 1 := by
    rw [toR_len] at hi
    unfold nxI at hi
    rwa [List.length_map, List.length_range] at hi
  rw [at0_nx (by rw [toR_len]; exact hi'), toR_at, toR_at, toR_at, toR_at, toR_at, toR_len]
  have e : (nxI ns).getD i 0 = ns.getD 0 0 * ns.getD i 0 - ns.getD (ns.length - 1) 0 * ns.getD (ns.length - 1 - i) 0 := by
    unfold nxI
    rw [List.getD_eq_getElem?_getD, List.getElem?_map, List.getElem?_range hi']
    rfl
  rw [e]
  push_cast
  rfl
theorem getD_int {ns : List Int} {i : Nat} {n : Int} (h : ns[i]? = some n) : ns.getD i 0 = n := by
  rw [List.getD_eq_getElem?_getD, h]
  rfl
theorem get_int {ns : List Int} {i : Nat} (h : i < ns.length) : ns[i]? = some (ns.getD i 0) := by
  rw [List.getD_eq_getElem?_getD, List.getElem?_eq_getElem h]
  rfl
theorem bz_getD {ns : List Int} {b : Nat} (h : ∀ n ∈ ns, Bz b n) (i : Nat) : Bz b (ns.getD i 0) := by
  by_cases hi : i < ns.length
  · exact h _ (List.mem_of_getElem? (get_int hi))
  · rw [List.getD_eq_getElem?_getD, List.getElem?_eq_none (by omega)]
    exact Nat.two_pow_pos b
section
variable {P : Program} {w : World} {K : PySem.W.Frag} {mg : Str → Option Value} {base : Heap}
/-- found_bends -/
def spFb (K : PySem.W.Frag) : Sp := fun vs H Q _ => ∃ (x : V) (qs : List Rat) (d e : Nat), vs = [x] ∧ RwT K H x qs ∧ qs ≠ [] ∧ Cd d e qs ∧ d < 8990 ∧ e ≤ 50000 ∧ qs.length < 100 ∧ (e + 2) * 2 ^ (qs.length - 1) ≤ 1900000 ∧
  (fb (qs.length - 1) qs = none → ∀ H', Same H H' → Q .non H') ∧ ∀ bs, fb (qs.length - 1) qs = some bs → ∀ v H', Same H H' → RwT K H' v bs → Q v H'
def FbI (K : PySem.W.Frag) (H : Hp) (qs : List Rat) (x : V) (p : Addr) (m : Nat) (σ : L2.St) (H' : Hp) : Prop := ∃ (l : Addr) (ns : List Int) (acc : List V) (bs : List Rat) (B : Nat) (o3 o4 o5 o6 : Option V), σ = [some x, some (.ref l), some (.ref p), o3, o4, o5, o6, none, none] ∧ Same H H' ∧ H' l = some (.lst (ns.map V.int)) ∧ l ≠ p ∧ H' p = some (.lst acc) ∧ FrA K H' acc bs ∧ ns.length = m + 1 ∧ m + bs.length + 1 = qs.length ∧ (∀ n ∈ ns, Bz B n) ∧ (B + 1) * 2 ^ m ≤ 1900000 ∧ fb (qs.length - 1) qs = (fb m (toR ns)).map (bs ++ ·)
theorem sc_found_bends : FnScope ["row", "numbers", "bends", "first", "last", "ahead", "back", "x", "y"] ["row"] (defScope s_found_bends) := ⟨rfl, rfl, rfl, by decide +kernel, rfl, by decide +kernel, by decide +kernel⟩
theorem d_found_bends (W : FunIn K mg "found_bends" s_found_bends) (T : Blt mg) (Dcleared : Df P w K mg base "cleared" 33 ["row"] (spClearD K)) (Dratio : Df P w K mg base "ratio" 33 ["number", "under"] (spRatio K)) (Ddivided : Df P w K mg base "divided" 34 ["numbers"] (spDvd K)) : Df P w K mg base "found_bends" 35 ["row"] (spFb K) := by
  obtain ⟨f, fd, F, hm⟩ := W
  refine ⟨f, fd, F.ok sc_found_bends (fun vs H Q E h => ?_) (fun cdv A outer s H vs Q E hr h => ?_), hm, F.kp, F.binds fun _ _ _ _ _ _ us hl => match us, hl with | [_], _ => rfl⟩
  · obtain ⟨x, qs, d, e, rfl, _⟩ := h
    rfl
  · obtain ⟨x, qs, d, e, rfl, hx, hne, zq, hd8, he5, hlen, hb2, qN, qS⟩ := h
    have nd := sc_found_bends.nd
    have hpos := List.length_pos_iff.mpr hne
    refine ⟨_, (pss_cons (ps_set (i := 1) nd rfl (Or.inl rfl) (pe_ix ix_tup (pe_d Dcleared (hr.mono (by decide)) rfl (pa_cons (pv 0) pa_nil)) pe_int (fun _ _ => rfl)))
        (pss_cons (ps_set (i := 2) nd rfl (Or.inl rfl) (pe_lst pa_nil))
        (pss_cons (ps_while PassesOwn.never (pt_cmpR op_gt (pe_callB call_len_seq (by rfl) T.n_len (by decide +kernel) (pa_cons (pv 1) pa_nil)) pe_int (nomark _)) (pss_cons (ps_asg (pe_tup (pa_cons (pe_ix ix_list (pv 1) pe_int (fun _ _ => rfl)) (pa_cons (pe_ix ix_list (pv 1) (pe_un un_neg pe_int) (fun _ _ => rfl)) pa_nil))) (pg_tup rfl (pgs_cons (pg_name (i := 3) nd rfl (Or.inr rfl)) (pgs_cons (pg_name (i := 4) nd rfl (Or.inr rfl)) pgs_nil))))
        (pss_cons (ps_if (pt_cmpR op_ge (pe_callB call_abs (by rfl) T.n_abs (by decide +kernel) (pa_cons (pv 4) pa_nil)) (pe_callB call_abs (by rfl) T.n_abs (by decide +kernel) (pa_cons (pv 3) pa_nil)) (nomark _)) (pss_one (ps_ret pe_non)) pss_nil)
        (pss_cons (ps_expr (pe_bm PySem.F.plainAttrs_list PySem.F.slot_list_append PySem.F.type_list_append mt_append (pv 2) (pa_cons (pe_d Dratio (hr.mono (by decide)) rfl (pa_cons (pv 4) (pa_cons (pv 3) pa_nil))) pa_nil)))
        (pss_cons (ps_par (i := 5) (j := 6) (by rfl) nd rfl rfl (by decide) rfl rfl (pa_cons (pe_slice sl_list (pv 1) po_none (po_some (pe_un un_neg pe_int))) (pa_cons (pe_rev0 (pv 1)) pa_nil)) (by rfl))
        (pss_one (ps_set (i := 1) nd rfl (Or.inl rfl) (pe_d Ddivided (hr.mono (by decide)) rfl (pa_cons (pe_lc (own := [("x", 7), ("y", 8)]) rfl nd (RZ.pi_zipA (by rfl) T.n_zip (pa_cons (pv 5) (pa_cons (pv 6) pa_nil))) (blkOk_by (own := [("x", 7), ("y", 8)]) (N := ["row", "numbers", "bends", "first", "last", "ahead", "back", "x", "y"]) (sc := defScope s_found_bends) (by decide +kernel)) (fun _ _ _ _ _ => (pg_pair (K := K) (i := 7) (j := 8) rfl rfl nd rfl rfl rfl rfl)) (fun _ _ _ _ _ => pts_nil) (fun _ _ _ _ _ => (pe_op op_sub (pe_op op_mulX (pv 3) (pv 7)) (pe_op op_mulX (pv 4) (pv 8))))) pa_nil)))))))))
        (pss_one (ps_ret (pe_callTy call_tuple_of (by rfl) T.n_tuple (by decide +kernel) (pa_cons (pv 2) pa_nil))))))), ?_⟩
    refine ⟨x, rfl, x, qs, d, e, rfl, hx, zq, hd8, he5, by omega, fun t l ns D H1 s1 ht hl hn hD hz hzn he => ?_⟩
    have hat : atI [V.ref l, V.int D] 0 = some (V.ref l) := rfl
    refine ⟨t, _, 0, V.ref l, rfl, rfl, ht, hat, ?_⟩
    refine ⟨Nat.zero_le _, fun p hp => ?_⟩
    have s2 := same_new (o := .lst []) hp
    have e2 : upd H1 p (.lst []) p = some (.lst []) := upd_same
    have hl2 := s2 _ _ hl
    have hpl : H p = none := s1.free hp
    have s2' := s1.trans s2
    generalize upd H1 p (.lst []) = H2 at s2 e2 hl2 s2'
    have hD0 : (D : Rat) ≠ 0 := by exact_mod_cast (show D ≠ 0 by omega)
    have hfb : fb (qs.length - 1) qs = fb (qs.length - 1) (toR ns) := by
      have : toR ns = smul (D : Rat) qs := he
      rw [this, fb_smul _ _ hD0]
    refine ⟨FbI K H qs x p,
      ⟨qs.length - 1, l, ns, [], [], e + 1, none, none, none, none, rfl, s2', hl2, fun z => (by rw [z] at hl; rw [hp] at hl; cases hl), e2, .nil, by omega, (by show qs.length - 1 + 0 + 1 = _; omega), hzn, hb2, ?_⟩, ?_⟩
    · rw [hfb]
      cases fb (qs.length - 1) (toR ns) <;> rfl
    clear hfb hb2 hl2 e2 s2' s2 hl hn hz hzn he ht hat
    rintro m σ H3 ⟨l, ns, acc, bs, B, o3, o4, o5, o6, rfl, s3, hl, hlp, hpa, hA, hn, hmb, hB, hBm, hfb⟩
    have hL : SqL K H3 l (ns.map V.int) := SqL.of hl
    have hL' : SqL K H3 l (ns.map V.int) ∨ SqT K H3 l (ns.map V.int) := Or.inl hL
    have lA := hA.length
    refine ⟨V.ref l, rfl, l, _, rfl, hL', _, _, rfl, rfl, _, rfl, ?_⟩
    rw [List.length_map, hn]
    refine tif (fun hm => ?_) (fun hm => ?_)
    · obtain ⟨k, rfl⟩ : ∃ k, m = k + 1 := ⟨m - 1, by omega⟩
      have g0 : atI (ns.map V.int) 0 = some (V.int (ns.getD 0 0)) := atI_nat (j := 0) (by rw [List.getElem?_map, get_int (by omega)]; rfl)
      have g1 : atI (ns.map V.int) (-1) = some (V.int (ns.getD (ns.length - 1) 0)) := by
        have e : ns.map V.int = (ns.map V.int).take (ns.length - 1) ++ [V.int (ns.getD (ns.length - 1) 0)] := by
          refine List.ext_getElem? fun i => ?_
          by_cases hi : i < ns.length - 1
          · rw [List.getElem?_append_left (by rw [List.length_take, List.length_map]; omega), List.getElem?_take_of_lt hi]
          · by_cases hi2 : i = ns.length - 1
            · rw [List.getElem?_append_right (by rw [List.length_take, List.length_map]; omega), hi2, List.getElem?_map, get_int (by omega), List.length_take, List.length_map, show ns.length - 1 - min (ns.length - 1) ns.length = 0 by omega]
              rfl
            · rw [List.getElem?_eq_none (by rw [List.length_map]; omega), List.getElem?_eq_none (by rw [List.length_append, List.length_take, List.length_map, List.length_singleton]; omega)]
        rw [e]
        exact atI_last _ _
      generalize hf : ns.getD 0 0 = f at g0
      generalize hzl : ns.getD (ns.length - 1) 0 = z at g1
      have zf : Bz B f := hf ▸ bz_getD hB 0
      have zz : Bz B z := hzl ▸ bz_getD hB _
      have hf0 : at0 (toR ns) 0 = (f : Rat) := by rw [toR_at, hf]
      have hz0 : at0 (toR ns) ((toR ns).length - 1) = (z : Rat) := by rw [toR_at, toR_len, hzl]
      have B8 : B ≤ 1900000 := by
        have := Nat.le_mul_of_pos_right (B + 1) (Nat.two_pow_pos (k + 1))
        omega
      have z8 : Bz 1900000 z := zz.mono B8
      have f8 : Bz 1900000 f := zf.mono B8
      refine ⟨FbI K H qs x p k, fun σ' H' h => ⟨k, Nat.lt_succ_self k, h⟩, ?_⟩
      refine ⟨V.ref l, rfl, l, _, 0, _, rfl, rfl, hL, g0, V.ref l, rfl, 1, rfl, l, _, -1, _, rfl, rfl, hL, g1, sz_of 2 rfl (by decide), fun pt hpt => ?_⟩
      have s4 := same_new (o := .tup [V.int f, V.int z]) hpt
      have q4 : SqT K (upd H3 pt (.tup [V.int f, V.int z])) pt [V.int f, V.int z] := SqT.of upd_same
      have hl4 := s4 _ _ hl
      have hp4 := s4 _ _ hpa
      have hA4 := fra_mono (same_t s4) hA
      have s4' := s3.trans s4
      generalize upd H3 pt (.tup [V.int f, V.int z]) = H4 at s4 q4 hl4 hp4 hA4 s4'
      refine ⟨pt, _, rfl, q4, rfl, _, _, rfl, _, _, rfl, rfl, ?_⟩
      have ef : (if f < 0 then -f else f) = (f.natAbs : Int) := by split <;> omega
      have ez : (if z < 0 then -z else z) = (z.natAbs : Int) := by split <;> omega
      refine ⟨V.int z, rfl, z, rfl, V.int f, rfl, f, rfl, _, _, rfl, rfl, _, rfl, ?_⟩
      rw [ef, ez]
      refine tif (fun hc => ?_) (fun hc => ?_)
      · refine qN ?_ _ s4'
        rw [hfb, fb_succ, hf0, hz0, if_pos (sq_int.mpr (by omega))]
        rfl
      have hfz : f ≠ 0 := fun h => hc (by rw [h]; omega)
      have hstep : fb (k + 1) (toR ns) = (fb k (nx (toR ns))).map ((z : Rat) / (f : Rat) :: ·) := by
        rw [fb_succ, hf0, hz0, if_neg fun h => hc (by have := sq_int.mp h; omega)]
      refine ⟨V.ref p, rfl, Or.inl ⟨rfl, _, SqL.of hp4⟩, V.int z, rfl, V.int f, rfl, z, f, rfl, hfz, f8, fun v H5 s5 hv => ?_⟩
      have hp5 := s5 _ _ hp4
      have hl5 := s5 _ _ hl4
      have hA5 := fra_mono (same_t s5) hA4
      refine ⟨p, acc, v, rfl, rfl, hp5, by rw [sizeLine_eq]; omega, ?_⟩
      have s6' : Same H (upd H5 p (.lst (acc ++ [v]))) := fun c o e => by rw [upd_ne (ne_of_none e hpl)]; exact (s4'.trans s5) _ _ e
      have hl6 : upd H5 p (.lst (acc ++ [v])) l = some (.lst (ns.map V.int)) := by rw [upd_ne hlp]; exact hl5
      have hp6 : upd H5 p (.lst (acc ++ [v])) p = some (.lst (acc ++ [v])) := upd_same
      have hA6 : FrA K (upd H5 p (.lst (acc ++ [v]))) (acc ++ [v]) (bs ++ [Rat.divInt z f]) := (fra_mono (samet_lst hp5) hA5).append (.cons (hv.mono (samet_lst hp5)) .nil)
      generalize upd H5 p (.lst (acc ++ [v])) = H6 at s6' hl6 hp6 hA6
      have hL6 : SqL K H6 l (ns.map V.int) := SqL.of hl6
      have hnl : (ns.map V.int).length = k + 2 := by rw [List.length_map, hn]
      refine ⟨V.ref l, rfl, 1, rfl, -1, rfl, l, _, rfl, hL6, fun pa hpa' => ?_⟩
      rw [cutV_init (by omega), hnl]
      have s7 := same_new (o := .lst ((ns.map V.int).take (k + 2 - 1))) hpa'
      have e7 : upd H6 pa (.lst ((ns.map V.int).take (k + 2 - 1))) pa = some (.lst ((ns.map V.int).take (k + 1))) := upd_same
      have hl7 := s7 _ _ hl6
      have hp7 := s7 _ _ hp6
      have hA7 := fra_mono (same_t s7) hA6
      have s7' := s6'.trans s7
      generalize upd H6 pa (.lst ((ns.map V.int).take (k + 2 - 1))) = H7 at s7 e7 hl7 hp7 hA7 s7'
      have hL7 : SqL K H7 l (ns.map V.int) := SqL.of hl7
      refine ⟨V.ref l, rfl, l, _, rfl, hL7, (fun h => by rw [h] at hnl; cases hnl), fun pb hpb => ?_⟩
      have s8 := same_new (o := .lst ((ns.map V.int).drop 1).reverse) hpb
      have e8 : upd H7 pb (.lst ((ns.map V.int).drop 1).reverse) pb = some (.lst ((ns.map V.int).drop 1).reverse) := upd_same
      have e7' := s8 _ _ e7
      have hp8 := s8 _ _ hp7
      have hA8 := fra_mono (same_t s8) hA7
      have s8' := s7'.trans s8
      generalize upd H7 pb (.lst ((ns.map V.int).drop 1).reverse) = H8 at s8 e8 e7' hp8 hA8 s8'
      refine ⟨_, _, rfl, ?_⟩
      have hLa : SqL K H8 pa ((ns.map V.int).take (k + 1)) := SqL.of e7'
      have hLb : SqL K H8 pb ((ns.map V.int).drop 1).reverse := SqL.of e8
      have hnn : (nxI ns).length = k + 1 := by
        unfold nxI
        rw [List.length_map, List.length_range, hn]
        rfl
      refine ⟨V.ref pa, rfl, V.ref pb, rfl, pa, pb, _, _, rfl, Or.inl ⟨hLa, hLb, fun D hD => lc_map (walk_zip (K := K) (a := pa) (b := pb) (n := k + 1) (by rw [List.length_take, List.length_reverse, List.length_drop]; omega)) hD (by rw [sizeLine_eq]; omega) (fun i _ v => v = .int ((nxI ns).getD i 0)) (fun _ _ _ _ _ h => h) (fun H1 s1 => ⟨s1.seq hLa, s1.seq hLb⟩) ?_ ?_⟩⟩
      · rintro i u G1 G2 hi sg _ ⟨T1, x1, x2, rfl, hT1, rfl, hx1, hx2⟩ Fin hF
        dsimp only [] at hx1 hx2
        have e1 : x1 = V.int (ns.getD i 0) := by
          rw [List.getElem?_take_of_lt hi, List.getElem?_map, get_int (by omega)] at hx1
          exact (Option.some.inj hx1).symm
        have e2 : x2 = V.int (ns.getD (k + 1 - i) 0) := by
          have hl : ((ns.map V.int).drop 1).length = k + 1 := by rw [List.length_drop]; omega
          rw [List.getElem?_reverse (by omega), hl, List.getElem?_drop, List.getElem?_map, get_int (by omega)] at hx2
          have : 1 + (k + 1 - 1 - i) = k + 1 - i := by omega
          rw [this] at hx2
          exact (Option.some.inj hx2).symm
        subst e1 e2
        have sT := same_new (o := .tup [V.int (ns.getD i 0), V.int (ns.getD (k + 1 - i) 0)]) hT1
        have qT : SqT K (upd G1 T1 (.tup [V.int (ns.getD i 0), V.int (ns.getD (k + 1 - i) 0)])) T1 [V.int (ns.getD i 0), V.int (ns.getD (k + 1 - i) 0)] := SqT.of upd_same
        generalize upd G1 T1 (.tup [V.int (ns.getD i 0), V.int (ns.getD (k + 1 - i) 0)]) = G3 at sT qT
        have c1 : CMulX f (ns.getD i 0) := cmuly zf (bz_getD hB i) (by omega)
        have c2 : CMulX z (ns.getD (k + 1 - i) 0) := cmuly zz (bz_getD hB _) (by omega)
        walk_at "rd"
        refine hF _ _ sT ?_
        have e3 : (nxI ns).getD i 0 = f * ns.getD i 0 - z * ns.getD (k + 1 - i) 0 := by
          unfold nxI
          rw [List.getD_eq_getElem?_getD, List.getElem?_map, List.getElem?_range (by omega), hf, hzl, hn]
          rfl
        rw [e3]
      · intro H9 acc9 s9 hacc9 hlen9 hel9
        have hex : acc9 = (nxI ns).map V.int := by
          refine List.ext_getElem? fun i => ?_
          by_cases hi : i < k + 1
          · have := hel9 i _ (List.getElem?_eq_getElem (show i < acc9.length by omega))
            rw [List.getElem?_eq_getElem (show i < acc9.length by omega), this, List.getElem?_map, get_int (by omega)]
            rfl
          · rw [List.getElem?_eq_none (by omega), List.getElem?_eq_none (by rw [List.length_map]; omega)]
        rw [hex] at hacc9
        have hB' : ∀ n ∈ nxI ns, Bz (2 * B + 1) n := fun n hn' => by
          unfold nxI at hn'
          obtain ⟨i, _, rfl⟩ := List.mem_map.mp hn'
          rw [hf, hzl]
          exact (Bz.sub (Bz.mul zf (bz_getD hB i)) (Bz.mul zz (bz_getD hB _))).mono (by omega)
        have h2B : (2 * B + 1 + 1) * 2 ^ k ≤ 1900000 := by
          rw [Nat.pow_succ] at hBm
          have : (2 * B + 1 + 1) * 2 ^ k = (B + 1) * (2 ^ k * 2) := by
            rw [show 2 * B + 1 + 1 = (B + 1) * 2 by omega, Nat.mul_assoc, Nat.mul_comm 2]
          omega
        have h2B' : 2 * B + 1 ≤ 4000000 := by
          have := Nat.le_mul_of_pos_right (2 * B + 1 + 1) (Nat.two_pow_pos k)
          omega
        have hnz : ∃ n ∈ nxI ns, n ≠ 0 := by
          refine ⟨(nxI ns).getD 0 0, List.mem_of_getElem? (get_int (by omega)), ?_⟩
          have e3 : (nxI ns).getD 0 0 = f * f - z * z := by
            unfold nxI
            rw [List.getD_eq_getElem?_getD, List.getElem?_map, List.getElem?_range (by omega), hf, hzl]
            show f * ns.getD 0 0 - z * ns.getD (ns.length - 1 - 0) 0 = _
            rw [Nat.sub_zero, hf, hzl]
          rw [e3]
          intro h0
          have h1 : f.natAbs * f.natAbs = z.natAbs * z.natAbs := by
            have a1 : f * f = ((f.natAbs * f.natAbs : Nat) : Int) := Int.natAbs_mul_self.symm
            have a2 : z * z = ((z.natAbs * z.natAbs : Nat) : Int) := Int.natAbs_mul_self.symm
            omega
          have h2 := Nat.mul_lt_mul'' (show z.natAbs < f.natAbs by omega) (show z.natAbs < f.natAbs by omega)
          omega
        refine ⟨D, nxI ns, 2 * B + 1, rfl, SqL.of hacc9, hB', h2B', hnz, by omega, fun pd ms c H10 hpd s10 e10 hc0 hms hBms hml => ?_⟩
        have hp10 := s10 _ _ (s9 _ _ hp8)
        refine ⟨pd, ms, acc ++ [v], bs ++ [Rat.divInt z f], 2 * B + 1, _, _, _, _, rfl, (s8'.trans s9).trans s10, e10, fun h => ?_, hp10, fra_mono (same_t (s9.trans s10)) hA8, by omega, by rw [List.length_append, List.length_singleton]; omega, hBms, h2B, ?_⟩
        · rw [h] at hpd
          rw [s9 _ _ hp8] at hpd
          cases hpd
        · rw [hfb, hstep, hms, fb_smul _ _ hc0, nxI_toR, Rat.divInt_eq_div]
          cases fb k (nx (toR ns)) with
          | none => rfl
          | some cs =>
            show some (bs ++ ((z : Rat) / (f : Rat) :: cs)) = some ((bs ++ [(z : Rat) / (f : Rat)]) ++ cs)
            rw [List.append_assoc]
            rfl
    · have hm0 : m = 0 := by omega
      subst hm0
      have hb : fb (qs.length - 1) qs = some bs := by
        rw [hfb]
        show some (bs ++ []) = some bs
        rw [List.append_nil]
      refine ⟨V.ref p, rfl, p, acc, rfl, Or.inl ⟨SqL.of hpa, fun t' ht' => ?_⟩⟩
      have s4 := same_new (o := .tup acc) ht'
      exact qS bs hb _ _ (s3.trans s4) ⟨t', acc, rfl, SqT.of upd_same, fra_mono (same_t s4) hA⟩
end
end Vx
-- big
set_option Elab.async false
set_option linter.all false
set_option maxRecDepth 100000
set_option maxHeartbeats 4000000
namespace Vx
open PySem PySem.Spec PyProof.Rows L2
local macro_rules | `(tactic| walk_at "cl") => `(tactic| first | assumption | exact Bz.mono (Bz.mul (by assumption) (by assumption)) (by decide) | rfl | omega | exact sz_of 0 rfl (by decide) | exact sz_of 1 rfl (by decide) | exact sz_of 2 rfl (by decide) | exact sz_of 3 rfl (by decide) | exact cmuly (by assumption) (by assumption) (by decide) | exact Bz.mono (Bz.mul (by assumption) (by assumption)) (by decide) | decide)
local macro_rules | `(tactic| walk_at "ex") => `(tactic| ((show Exists _); first | apply @Exists.intro V | apply @Exists.intro Int | apply @Exists.intro Addr | apply @Exists.intro (List V) | apply @Exists.intro Nat | apply @Exists.intro Str | apply @Exists.intro Bool | apply @Exists.intro (Option V) | apply @Exists.intro String | apply @Exists.intro Rat | apply @Exists.intro (List Rat)))
local macro_rules | `(tactic| walk_at "rd") => `(tactic| ((repeat (first | (walk_at "ex") | (apply And.intro; (focus (walk_at "cl"))))); (try dsimp only [])))
local macro_rules | `(tactic| walk_at "r0") => `(tactic| (repeat (first | (walk_at "ex") | (apply And.intro; (focus (walk_at "cl"))))))

section
variable {P : Program} {w : World} {K : PySem.W.Frag} {mg : Str → Option Value} {base : Heap}
/-- is_filled_row -/
def spFil (K : PySem.W.Frag) (tb : Addr) : Sp := fun vs H Q _ => ∃ (x : V) (qs : List Rat), vs = [x] ∧ RwT K H x qs ∧ Tr qs ∧ qs ≠ [] ∧ H tb = some (tabX tb) ∧ ∀ H', Same H H' → Q (.bl true) H'
theorem sc_is_filled_row : FnScope ["value"] ["value"] (defScope s_is_filled_row) := ⟨rfl, rfl, rfl, by decide +kernel, rfl, by decide +kernel, by decide +kernel⟩
theorem d_is_filled_row {tb : Addr} (W : FunIn K mg "is_filled_row" s_is_filled_row) (Dis_row : Df P w K mg base "is_row" 2 ["value"] (spIsRow K tb)) : Df P w K mg base "is_filled_row" 3 ["value"] (spFil K tb) := by
  obtain ⟨f, fd, F, hm⟩ := W
  refine ⟨f, fd, F.ok sc_is_filled_row (fun vs H Q E h => ?_) (fun cdv A outer s H vs Q E hr h => ?_), hm, F.kp, F.binds fun _ _ _ _ _ _ us hl => match us, hl with | [_], _ => rfl⟩
  · obtain ⟨x, qs, rfl, _⟩ := h
    rfl
  · obtain ⟨x, qs, rfl, hx, ht, nq, htb, q⟩ := h
    refine ⟨_, (pss_one (ps_ret (pe_and (pe_d Dis_row (hr.mono (by decide)) rfl (pa_cons (pv 0) pa_nil)) (pe_one (pe_cmpR (op_neD (hu64 hr)) (pv 0) (pe_tup pa_nil) (nomark _)))))), ?_⟩
    refine ⟨x, rfl, x, qs, rfl, hx, ht, htb, fun H1 s1 => ?_⟩
    refine ⟨true, rfl, ?_⟩
    rw [if_pos rfl]
    walk_at "rd"
    intro p hp
    have s2 := same_new (o := .tup []) hp
    have e2 : SqT K (upd H1 p (.tup [])) p [] := SqT.of upd_same
    refine rNeD_rw ((hx.mono (same_t s1)).mono (same_t s2)) (rwt_nil e2) ?_
    rw [decide_eq_false nq]
    exact q _ (s1.trans s2)
/-- check_filled_row -/
def spCkFil (K : PySem.W.Frag) (tb : Addr) : Sp := fun vs H Q _ => ∃ (x : V) (qs : List Rat), vs = [x] ∧ RwT K H x qs ∧ Tr qs ∧ qs ≠ [] ∧ H tb = some (tabX tb) ∧ ∀ H', Same H H' → Q .non H'
theorem sc_check_filled_row : FnScope ["given"] ["given"] (defScope s_check_filled_row) := ⟨rfl, rfl, rfl, by decide +kernel, rfl, by decide +kernel, by decide +kernel⟩
theorem d_check_filled_row {tb : Addr} (W : FunIn K mg "check_filled_row" s_check_filled_row) (Dis_filled_row : Df P w K mg base "is_filled_row" 3 ["value"] (spFil K tb)) : Df P w K mg base "check_filled_row" 4 ["given"] (spCkFil K tb) := by
  obtain ⟨f, fd, F, hm⟩ := W
  refine ⟨f, fd, F.ok sc_check_filled_row (fun vs H Q E h => ?_) (fun cdv A outer s H vs Q E hr h => ?_), hm, F.kp, F.binds fun _ _ _ _ _ _ us hl => match us, hl with | [_], _ => rfl⟩
  · obtain ⟨x, qs, rfl, _⟩ := h
    rfl
  · obtain ⟨x, qs, rfl, hx, ht, nq, htb, q⟩ := h
    refine ⟨_, (pss_one (ps_if (pt_not (pt_val (pe_d Dis_filled_row (hr.mono (by decide)) rfl (pa_cons (pv 0) pa_nil)))) (pss_one ps_absurd) pss_nil)), ?_⟩
    refine ⟨x, rfl, x, qs, rfl, hx, ht, nq, htb, fun H1 s1 => ?_⟩
    refine ⟨true, rfl, ?_⟩
    exact q _ s1
end
section
variable {P : Program} {w : World} {K : PySem.W.Frag} {mg : Str → Option Value} {base : Heap}
/-- bends_of, is_steady -/
def spBo (K : PySem.W.Frag) (tb : Addr) : Sp := fun vs H Q E => ∃ (x : V) (qs : List Rat), vs = [x] ∧ RwT K H x qs ∧ Tr qs ∧ qs ≠ [] ∧ H tb = some (tabX tb) ∧ ∀ H', Same H H' → spFb K [x] H' Q E
def spStd (K : PySem.W.Frag) (tb : Addr) : Sp := fun vs H Q _ => ∃ (x : V) (qs : List Rat) (d e : Nat), vs = [x] ∧ RwT K H x qs ∧ Tr qs ∧ qs ≠ [] ∧ H tb = some (tabX tb) ∧ Cd d e qs ∧ d < 8990 ∧ e ≤ 50000 ∧ qs.length < 100 ∧ (e + 2) * 2 ^ (qs.length - 1) ≤ 1900000 ∧ ∀ H', Same H H' → Q (.bl (fb (qs.length - 1) qs).isSome) H'
theorem sc_is_steady : FnScope ["row"] ["row"] (defScope s_is_steady) := ⟨rfl, rfl, rfl, by decide +kernel, rfl, by decide +kernel, by decide +kernel⟩
theorem d_is_steady {tb : Addr} (W : FunIn K mg "is_steady" s_is_steady) (Dcheck_filled_row : Df P w K mg base "check_filled_row" 4 ["given"] (spCkFil K tb)) (Dfound_bends : Df P w K mg base "found_bends" 35 ["row"] (spFb K)) : Dj P w K mg base "is_steady" 36 ["row"] "row" (spStd K tb) := by
  obtain ⟨f, fd, F, hm⟩ := W
  refine ⟨f, fd, F.ok sc_is_steady (fun vs H Q E h => ?_) (fun cdv A outer s H vs Q E hr h => ?_), hm, F.kp, F.binds fun _ _ _ _ _ _ us hl => match us, hl with | [_], _ => rfl, ?_⟩
  · obtain ⟨x, qs, d, e, rfl, _⟩ := h
    rfl
  · obtain ⟨x, qs, d, e, rfl, hx, ht, nq, htb, zq, l1, l2, l3, l4, q⟩ := h
    refine ⟨_, (pss_cons (ps_expr (pe_d Dcheck_filled_row (hr.mono (by decide)) rfl (pa_cons (pv 0) pa_nil)))
        (pss_one (ps_ret (pe_cmpR op_notN (pe_d Dfound_bends (hr.mono (by decide)) rfl (pa_cons (pv 0) pa_nil)) pe_non (nomark _))))), ?_⟩
    refine ⟨x, rfl, x, qs, rfl, hx, ht, nq, htb, fun H1 s1 => ?_⟩
    refine ⟨x, rfl, x, qs, d, e, rfl, hx.mono (same_t s1), nq, zq, l1, l2, l3, l4, fun hn H2 s2 => ?_, fun bs hs v H2 s2 hv => ?_⟩
    · have := q H2 (s1.trans s2)
      rw [hn] at this
      exact ⟨rfl, this⟩
    · have := q H2 (s1.trans s2)
      rw [hs] at this
      obtain ⟨a, us, rfl, _, _⟩ := hv
      exact ⟨rfl, this⟩
  · obtain ⟨oc, od, kV, doc, pm, an, cdv, ct, osl, rfl, lk, hcd⟩ := F.ex
    exact fun s u => BindsTo.of_eq (by first | rfl | with_unfolding_all rfl)
end
end Vx
namespace Vx
open PySem PySem.Spec PyProof.Rows L2
local macro_rules | `(tactic| walk_at "cl") => `(tactic| first | assumption | exact Bz.mono (Bz.mul (by assumption) (by assumption)) (by decide) | rfl | omega | exact sz_of 0 rfl (by decide) | exact sz_of 1 rfl (by decide) | exact sz_of 2 rfl (by decide) | exact sz_of 3 rfl (by decide) | exact cmuly (by assumption) (by assumption) (by decide) | exact Bz.mono (Bz.mul (by assumption) (by assumption)) (by decide) | decide)
local macro_rules | `(tactic| walk_at "ex") => `(tactic| ((show Exists _); first | apply @Exists.intro V | apply @Exists.intro Int | apply @Exists.intro Addr | apply @Exists.intro (List V) | apply @Exists.intro Nat | apply @Exists.intro Str | apply @Exists.intro Bool | apply @Exists.intro (Option V) | apply @Exists.intro String | apply @Exists.intro Rat | apply @Exists.intro (List Rat)))
local macro_rules | `(tactic| walk_at "rd") => `(tactic| ((repeat (first | (walk_at "ex") | (apply And.intro; (focus (walk_at "cl"))))); (try dsimp only [])))
local macro_rules | `(tactic| walk_at "r0") => `(tactic| (repeat (first | (walk_at "ex") | (apply And.intro; (focus (walk_at "cl"))))))
structure OneC (K : PySem.W.Frag) (mg : Str → Option Value) (aO : Addr) : Prop where
  g : mg "ONE" = some (.ref aO)
  fr : ∀ H : Hp, FrT K H (.ref aO) 1
section
variable {P : Program} {w : World} {K : PySem.W.Frag} {mg : Str → Option Value} {base : Heap}
theorem sc_ratio_over : FnScope ["one", "other"] ["one", "other"] (defScope s_ratio_over) := ⟨rfl, rfl, rfl, by decide +kernel, rfl, by decide +kernel, by decide +kernel⟩
theorem d_ratio_over (W : FunIn K mg "ratio_over" s_ratio_over) (Dratio : Df P w K mg base "ratio" 33 ["number", "under"] (spRatio K)) : Df P w K mg base "ratio_over" 34 ["one", "other"] (spQ2 K) := by
  obtain ⟨f, fd, F, hm⟩ := W
  refine ⟨f, fd, F.ok sc_ratio_over (fun vs H Q E h => ?_) (fun cdv A outer s H vs Q E hr h => ?_), hm, F.kp, F.binds fun _ _ _ _ _ _ us hl => match us, hl with | [_, _], _ => rfl⟩
  · obtain ⟨x, y, p, q, rfl, _⟩ := h
    rfl
  · obtain ⟨x, y, p, r, rfl, ⟨a, rfl, ha⟩, ⟨b, rfl, hb⟩, hr0, zp, zr, q⟩ := h
    have b1 := zp.n
    have b2 := zp.dd
    have b3 := zr.n
    have b4 := zr.dd
    have hd : (p.den : Int) * r.num ≠ 0 := Int.mul_ne_zero (by have := p.den_nz; omega) (fun z => hr0 (Rat.num_eq_zero.mp z))
    refine ⟨_, (pss_one (ps_ret (pe_d Dratio (hr.mono (by decide)) rfl (pa_cons (pe_op op_mulX (pe_ix ix_tup (pv 0) pe_int (fun _ _ => rfl)) (pe_ix ix_tup (pv 1) pe_int (fun _ _ => rfl))) (pa_cons (pe_op op_mulX (pe_ix ix_tup (pv 0) pe_int (fun _ _ => rfl)) (pe_ix ix_tup (pv 1) pe_int (fun _ _ => rfl))) pa_nil))))), ?_⟩
    walk_at "rd"
    rw [fr_div]
    exact q
/-- is_share -/
def spShr (K : PySem.W.Frag) : Sp := fun vs H Q _ => ∃ (x : V) (q : Rat), vs = [x] ∧ FrT K H x q ∧ 0 < q.num ∧ q.num ≤ (q.den : Int) ∧ Q (.bl true) H
theorem sc_is_share : FnScope ["value"] ["value"] (defScope s_is_share) := ⟨rfl, rfl, rfl, by decide +kernel, rfl, by decide +kernel, by decide +kernel⟩
theorem d_is_share (W : FunIn K mg "is_share" s_is_share) (Dis_fraction : Df P w K mg base "is_fraction" 33 ["value"] (spIsFr K)) : Df P w K mg base "is_share" 34 ["value"] (spShr K) := by
  obtain ⟨f, fd, F, hm⟩ := W
  refine ⟨f, fd, F.ok sc_is_share (fun vs H Q E h => ?_) (fun cdv A outer s H vs Q E hr h => ?_), hm, F.kp, F.binds fun _ _ _ _ _ _ us hl => match us, hl with | [_], _ => rfl⟩
  · obtain ⟨x, q, rfl, _⟩ := h
    rfl
  · obtain ⟨x, r, rfl, hx, h0, h1, q⟩ := h
    refine ⟨_, (pss_one (ps_ret (pe_and (pe_d Dis_fraction (hr.mono (by decide)) rfl (pa_cons (pv 0) pa_nil)) (pe_one (pe_chain op_lt op_le pe_int (pe_ix ix_tup (pv 0) pe_int (fun _ _ => rfl)) (pe_ix ix_tup (pv 0) pe_int (fun _ _ => rfl))))))), ?_⟩
    refine ⟨x, rfl, x, r, rfl, hx, true, rfl, if_tt ?_⟩
    obtain ⟨a, rfl, ha⟩ := hx
    walk_at "rd"
    rw [decide_eq_true h0]
    walk_at "rd"
    rw [decide_eq_true h1]
    exact q
theorem inv_pow (c : Rat) : ∀ i : Nat, (1 / c) ^ i = 1 / c ^ i
  | 0 => by rw [Rat.pow_zero, Rat.pow_zero]; grind
  | i + 1 => by
    rw [Rat.pow_succ, Rat.pow_succ, inv_pow c i]
    grind
/-- stretched; _law_stretched with the powers below -/
def spStr (K : PySem.W.Frag) (up : Bool) : Sp := fun vs H Q _ => ∃ (x y : V) (qs : List Rat) (c : Rat) (b e : Nat), vs = [x, y] ∧ RwT K H x qs ∧ FrT K H y c ∧ c ≠ 0 ∧ Qs b qs ∧ Qz e c ∧ 0 < e ∧ b ≤ 400000 ∧ (qs.length + 1) * e + 1 ≤ 400000 ∧ qs.length < 900 ∧ ∀ v H', Same H H' → RwT K H' v (strR (if up then c else 1 / c) qs) → Q v H'
theorem sc_stretched : FnScope ["row", "fraction", "numbers", "power", "number"] ["row", "fraction"] (defScope s_stretched) := ⟨rfl, rfl, rfl, by decide +kernel, rfl, by decide +kernel, by decide +kernel⟩
theorem d_stretched {aONE : Addr} (W : FunIn K mg "stretched" s_stretched) (T : Blt mg) (hONE : OneC K mg aONE) (Dratio_product : Df P w K mg base "ratio_product" 34 ["one", "other"] (spR2 K (fun p q => p * q))) : Df P w K mg base "stretched" 35 ["row", "fraction"] (spStr K true) := by
  obtain ⟨f, fd, F, hm⟩ := W
  refine ⟨f, fd, F.ok sc_stretched (fun vs H Q E h => ?_) (fun cdv A outer s H vs Q E hr h => ?_), hm, F.kp, F.binds fun _ _ _ _ _ _ us hl => match us, hl with | [_, _], _ => rfl⟩
  · obtain ⟨x, y, qs, c, b, e, rfl, _⟩ := h
    rfl
  · obtain ⟨x, y, qs, c, b, e, rfl, ⟨a, us, rfl, ha, hA⟩, hy, hc0, zq, zc, he0, hb, he, hlen, q⟩ := h
    have nd := sc_stretched.nd
    have hL := hA.length
    have zp : ∀ i, i ≤ qs.length → Qz 400000 (c ^ i) := fun i hi => (qz_pow zc he0 i).mono (by
      have := Nat.mul_le_mul_left e (show i ≤ qs.length + 1 by omega)
      rw [Nat.mul_comm e (qs.length + 1)] at this
      omega)
    have hce : Qz 400000 c := zc.mono (by
      have := Nat.mul_le_mul_right e (show 1 ≤ qs.length + 1 by omega)
      omega)
    refine ⟨_, (pss_cons (ps_set (i := 2) nd rfl (Or.inl rfl) (pe_lst pa_nil))
        (pss_cons (ps_set (i := 3) nd rfl (Or.inl rfl) (pe_glob (v := .ref aONE) rfl hONE.g rfl))
        (pss_cons (ps_for PassesOwn.never rfl (pi_tup (pv 0)) (pg_name (i := 4) nd rfl (Or.inl rfl) (Or.inr rfl)) (pss_cons (ps_expr (pe_bm PySem.F.plainAttrs_list PySem.F.slot_list_append PySem.F.type_list_append mt_append (pv 2) (pa_cons (pe_d Dratio_product (hr.mono (by decide)) rfl (pa_cons (pv 4) (pa_cons (pv 3) pa_nil))) pa_nil)))
        (pss_one (ps_set (i := 3) nd rfl (Or.inl rfl) (pe_d Dratio_product (hr.mono (by decide)) rfl (pa_cons (pv 3) (pa_cons (pv 1) pa_nil)))))))
        (pss_one (ps_ret (pe_callTy call_tuple_of (by rfl) T.n_tuple (by decide +kernel) (pa_cons (pv 2) pa_nil))))))), ?_⟩
    refine ⟨Nat.zero_le _, fun p hp => ?_⟩
    have s1 := same_new (o := .lst []) hp
    have e1 : upd H p (.lst []) p = some (.lst []) := upd_same
    generalize upd H p (.lst []) = H1 at s1 e1
    have e2 := e1
    have s12 := s1
    have f2 : FrT K H1 (.ref aONE) 1 := hONE.fr H1
    refine ⟨V.ref a, rfl, a, rfl, ⟨us, same_seqT s12 ha⟩, for_tup (K := K) (a := a) (xs := us) (fun i σ H' => ∃ (acc : List V) (v3 : V) (o4 : Option V), σ = [some (.ref a), some y, some (.ref p), some v3, o4] ∧ Same H H' ∧ H' p = some (.lst acc) ∧ FrA K H' acc ((strR c qs).take i) ∧ FrT K H' v3 (c ^ i)) ⟨[], _, none, rfl, s12, e2, .nil, by rw [Rat.pow_zero]; exact f2⟩ (fun i σ H' _ ⟨_, _, _, _, s, _⟩ => same_seqT s ha) ?_ ?_⟩
    · rintro i u σ H4 hu ⟨acc, v3, o4, rfl, s4, e4, g4, hv3⟩
      obtain ⟨k, hk, hfr⟩ := hA.get hu
      have hi : i < qs.length := (List.getElem?_eq_some_iff.mp hk).1
      have ek : at0 qs i = k := at0_some hk
      have hu4 : FrT K H4 u (at0 qs i) := by rw [ek]; exact hfr.mono (same_t s4)
      have zu : Qz b (at0 qs i) := by rw [ek]; exact zq k (List.mem_of_getElem? hk)
      have hla := g4.length
      rw [List.length_take, str_len] at hla
      refine ⟨V.ref p, rfl, Or.inl ⟨rfl, _, SqL.of e4⟩, u, rfl, v3, rfl, u, v3, at0 qs i, c ^ i, rfl, hu4, hv3, zu.mono (by omega), (zp i (by omega)).mono (by omega), fun v H5 s5 hv => ?_⟩
      have e5 := s5 _ _ e4
      have hv35 := hv3.mono (same_t s5)
      have g5 := fra_mono (same_t s5) g4
      have s45 := s4.trans s5
      refine ⟨p, acc, v, rfl, rfl, e5, by rw [sizeLine_eq]; omega, ?_⟩
      have s6 : Same H (upd H5 p (.lst (acc ++ [v]))) := fun c o e => by rw [upd_ne (ne_of_none e hp)]; exact s45 _ _ e
      have st6 := samet_lst e5 (ys := acc ++ [v])
      have e6 : upd H5 p (.lst (acc ++ [v])) p = some (.lst (acc ++ [v])) := upd_same
      have hv36 := hv35.mono st6
      have g6 : FrA K (upd H5 p (.lst (acc ++ [v]))) (acc ++ [v]) ((strR c qs).take (i + 1)) := by
        have er : (strR c qs).take (i + 1) = (strR c qs).take i ++ [at0 qs i * c ^ i] := by
          rw [List.take_add_one, (show (strR c qs)[i]? = some (at0 qs i * c ^ i) from (by rw [at0_get (by rw [str_len]; exact hi), at0_str]))]
          rfl
        rw [er]
        exact (fra_mono st6 g5).append (Al.one (hv.mono st6))
      generalize upd H5 p (.lst (acc ++ [v])) = H6 at s6 st6 e6 hv36 g6
      refine ⟨v3, rfl, y, rfl, v3, y, c ^ i, c, rfl, hv36, hy.mono (same_t s6), (zp i (by omega)).mono (by decide), hce.mono (by decide), fun v7 H7 s7 hv7 => ?_⟩
      refine ⟨acc ++ [v], v7, _, rfl, s6.trans s7, s7 _ _ e6, fra_mono (same_t s7) g6, ?_⟩
      rw [Rat.pow_succ]
      exact hv7
    · rintro σ H4 ⟨acc, v3, o4, rfl, s4, e4, g4, hv3⟩
      refine ⟨V.ref p, rfl, p, acc, rfl, Or.inl ⟨SqL.of e4, fun t' ht' => ?_⟩⟩
      have s5 := same_new (o := .tup acc) ht'
      rw [hL, List.take_of_length_le (by rw [str_len]; exact Nat.le_refl _)] at g4
      exact q _ _ (s4.trans s5) ⟨t', acc, rfl, SqT.of upd_same, fra_mono (same_t s5) g4⟩
theorem sc__law_stretched : FnScope ["row", "x", "found", "power", "number"] ["row", "x"] (defScope s__law_stretched) := ⟨rfl, rfl, rfl, by decide +kernel, rfl, by decide +kernel, by decide +kernel⟩
theorem d__law_stretched (W : FunIn K mg "_law_stretched" s__law_stretched) (T : Blt mg) (D_law_over : Df P w K mg base "_law_over" 34 ["one", "two"] (spQ2 K)) (D_law_times : Df P w K mg base "_law_times" 34 ["one", "two"] (spR2 K (fun p q => p * q))) : Df P w K mg base "_law_stretched" 35 ["row", "x"] (spStr K false) := by
  obtain ⟨f, fd, F, hm⟩ := W
  refine ⟨f, fd, F.ok sc__law_stretched (fun vs H Q E h => ?_) (fun cdv A outer s H vs Q E hr h => ?_), hm, F.kp, F.binds fun _ _ _ _ _ _ us hl => match us, hl with | [_, _], _ => rfl⟩
  · obtain ⟨x, y, qs, c, b, e, rfl, _⟩ := h
    rfl
  · obtain ⟨x, y, qs, c, b, e, rfl, ⟨a, us, rfl, ha, hA⟩, hy, hc0, zq, zc, he0, hb, he, hlen, q⟩ := h
    have nd := sc__law_stretched.nd
    have hL := hA.length
    have zp : ∀ i, i ≤ qs.length → Qz 400000 (c ^ i) := fun i hi => (qz_pow zc he0 i).mono (by
      have := Nat.mul_le_mul_left e (show i ≤ qs.length + 1 by omega)
      rw [Nat.mul_comm e (qs.length + 1)] at this
      omega)
    have hce : Qz 400000 c := zc.mono (by
      have := Nat.mul_le_mul_right e (show 1 ≤ qs.length + 1 by omega)
      omega)
    refine ⟨_, (pss_cons (ps_par (i := 2) (j := 3) (by rfl) nd rfl rfl (by decide) rfl rfl (pa_cons (pe_lst pa_nil) (pa_cons (pe_tup (pa_cons pe_int (pa_cons pe_int pa_nil))) pa_nil)) (by rfl))
        (pss_cons (ps_for PassesOwn.never rfl (pi_tup (pv 0)) (pg_name (i := 4) nd rfl (Or.inl rfl) (Or.inr rfl)) (pss_cons (ps_expr (pe_bm PySem.F.plainAttrs_list PySem.F.slot_list_append PySem.F.type_list_append mt_append (pv 2) (pa_cons (pe_d D_law_over (hr.mono (by decide)) rfl (pa_cons (pv 4) (pa_cons (pv 3) pa_nil))) pa_nil)))
        (pss_one (ps_set (i := 3) nd rfl (Or.inl rfl) (pe_d D_law_times (hr.mono (by decide)) rfl (pa_cons (pv 3) (pa_cons (pv 1) pa_nil)))))))
        (pss_one (ps_ret (pe_callTy call_tuple_of (by rfl) T.n_tuple (by decide +kernel) (pa_cons (pv 2) pa_nil)))))), ?_⟩
    refine ⟨Nat.zero_le _, fun p hp => ?_⟩
    have s1 := same_new (o := .lst []) hp
    have e1 : upd H p (.lst []) p = some (.lst []) := upd_same
    generalize upd H p (.lst []) = H1 at s1 e1
    refine ⟨sz_of 2 rfl (by decide), fun pw hpw => ?_⟩
    have s2 := same_new (o := .tup [V.int 1, V.int 1]) hpw
    have q2 : SqT K (upd H1 pw (.tup [V.int 1, V.int 1])) pw [V.int 1, V.int 1] := SqT.of upd_same
    have e2 := s2 _ _ e1
    have s12 := s1.trans s2
    generalize upd H1 pw (.tup [V.int 1, V.int 1]) = H2 at s2 q2 e2 s12
    refine ⟨_, _, rfl, ?_⟩
    have f2 : FrT K H2 (.ref pw) 1 := ⟨pw, rfl, q2⟩
    refine ⟨V.ref a, rfl, a, rfl, ⟨us, same_seqT s12 ha⟩, for_tup (K := K) (a := a) (xs := us) (fun i σ H' => ∃ (acc : List V) (v3 : V) (o4 : Option V), σ = [some (.ref a), some y, some (.ref p), some v3, o4] ∧ Same H H' ∧ H' p = some (.lst acc) ∧ FrA K H' acc ((strR (1 / c) qs).take i) ∧ FrT K H' v3 (c ^ i)) ⟨[], _, none, rfl, s12, e2, .nil, by rw [Rat.pow_zero]; exact f2⟩ (fun i σ H' _ ⟨_, _, _, _, s, _⟩ => same_seqT s ha) ?_ ?_⟩
    · rintro i u σ H4 hu ⟨acc, v3, o4, rfl, s4, e4, g4, hv3⟩
      obtain ⟨k, hk, hfr⟩ := hA.get hu
      have hi : i < qs.length := (List.getElem?_eq_some_iff.mp hk).1
      have ek : at0 qs i = k := at0_some hk
      have hu4 : FrT K H4 u (at0 qs i) := by rw [ek]; exact hfr.mono (same_t s4)
      have zu : Qz b (at0 qs i) := by rw [ek]; exact zq k (List.mem_of_getElem? hk)
      have hla := g4.length
      rw [List.length_take, str_len] at hla
      refine ⟨V.ref p, rfl, Or.inl ⟨rfl, _, SqL.of e4⟩, u, rfl, v3, rfl, u, v3, at0 qs i, c ^ i, rfl, hu4, hv3, pow_ne hc0 i, zu.mono (by omega), (zp i (by omega)).mono (by omega), fun v H5 s5 hv => ?_⟩
      have e5 := s5 _ _ e4
      have hv35 := hv3.mono (same_t s5)
      have g5 := fra_mono (same_t s5) g4
      have s45 := s4.trans s5
      refine ⟨p, acc, v, rfl, rfl, e5, by rw [sizeLine_eq]; omega, ?_⟩
      have s6 : Same H (upd H5 p (.lst (acc ++ [v]))) := fun c o e => by rw [upd_ne (ne_of_none e hp)]; exact s45 _ _ e
      have st6 := samet_lst e5 (ys := acc ++ [v])
      have e6 : upd H5 p (.lst (acc ++ [v])) p = some (.lst (acc ++ [v])) := upd_same
      have hv36 := hv35.mono st6
      have g6 : FrA K (upd H5 p (.lst (acc ++ [v]))) (acc ++ [v]) ((strR (1 / c) qs).take (i + 1)) := by
        have er : (strR (1 / c) qs).take (i + 1) = (strR (1 / c) qs).take i ++ [at0 qs i / c ^ i] := by
          rw [List.take_add_one, (show (strR (1 / c) qs)[i]? = some (at0 qs i / c ^ i) from (by rw [at0_get (by rw [str_len]; exact hi), at0_str, inv_pow, show at0 qs i * (1 / c ^ i) = at0 qs i / c ^ i by grind]))]
          rfl
        rw [er]
        exact (fra_mono st6 g5).append (Al.one (hv.mono st6))
      generalize upd H5 p (.lst (acc ++ [v])) = H6 at s6 st6 e6 hv36 g6
      refine ⟨v3, rfl, y, rfl, v3, y, c ^ i, c, rfl, hv36, hy.mono (same_t s6), (zp i (by omega)).mono (by decide), hce.mono (by decide), fun v7 H7 s7 hv7 => ?_⟩
      refine ⟨acc ++ [v], v7, _, rfl, s6.trans s7, s7 _ _ e6, fra_mono (same_t s7) g6, ?_⟩
      rw [Rat.pow_succ]
      exact hv7
    · rintro σ H4 ⟨acc, v3, o4, rfl, s4, e4, g4, hv3⟩
      refine ⟨V.ref p, rfl, p, acc, rfl, Or.inl ⟨SqL.of e4, fun t' ht' => ?_⟩⟩
      have s5 := same_new (o := .tup acc) ht'
      rw [hL, List.take_of_length_le (by rw [str_len]; exact Nat.le_refl _)] at g4
      exact q _ _ (s4.trans s5) ⟨t', acc, rfl, SqT.of upd_same, fra_mono (same_t s5) g4⟩
/-- _law_below -/
def spBelow (K : PySem.W.Frag) : Sp := fun vs H Q _ => ∃ (x y : V) (p q : Rat), vs = [x, y] ∧ FrT K H x p ∧ FrT K H y q ∧ Qz 900000 p ∧ Qz 900000 q ∧ Q (.bl (decide (p < q))) H
theorem lt_iff (p q : Rat) : p.num * (q.den : Int) < q.num * (p.den : Int) ↔ p < q := by
  have e : ∀ c : Rat, c * ((c.den : Int) : Rat) = (c.num : Rat) := fun c => by
    have e : c = (c.num : Rat) / ((c.den : Int) : Rat) := by
      rw [← Rat.divInt_eq_div]
      exact (fr_self c).symm
    have h2 : ((c.den : Int) : Rat) ≠ 0 := by have := c.den_nz; exact_mod_cast (show (c.den : Int) ≠ 0 by omega)
    have key : ∀ c n d : Rat, d ≠ 0 → c = n / d → c * d = n := by
      intro c n d a b
      grind
    exact key _ _ _ h2 e
  have hp : (0 : Rat) < ((p.den : Int) : Rat) := by have := p.den_pos; exact_mod_cast (show (0 : Int) < (p.den : Int) by omega)
  have hq : (0 : Rat) < ((q.den : Int) : Rat) := by have := q.den_pos; exact_mod_cast (show (0 : Int) < (q.den : Int) by omega)
  have h1 : (p.num * (q.den : Int) < q.num * (p.den : Int)) ↔ ((p.num : Rat) * ((q.den : Int) : Rat) < (q.num : Rat) * ((p.den : Int) : Rat)) := by
    constructor
    · intro h
      exact_mod_cast h
    · intro h
      exact_mod_cast h
  rw [h1, ← e p, ← e q]
  generalize ((p.den : Int) : Rat) = a at *
  generalize ((q.den : Int) : Rat) = b at *
  have hab := Rat.mul_pos hp hq
  constructor
  · intro h
    refine Classical.byContradiction fun z => ?_
    have := mul_le (Rat.le_of_lt hab) (show q ≤ p by grind)
    grind
  · intro h
    have := Rat.mul_lt_mul_of_pos_left h hab
    grind
theorem sc__law_below : FnScope ["one", "two"] ["one", "two"] (defScope s__law_below) := ⟨rfl, rfl, rfl, by decide +kernel, rfl, by decide +kernel, by decide +kernel⟩
theorem d__law_below (W : FunIn K mg "_law_below" s__law_below) : Df P w K mg base "_law_below" 33 ["one", "two"] (spBelow K) := by
  obtain ⟨f, fd, F, hm⟩ := W
  refine ⟨f, fd, F.ok sc__law_below (fun vs H Q E h => ?_) (fun cdv A outer s H vs Q E hr h => ?_), hm, F.kp, F.binds fun _ _ _ _ _ _ us hl => match us, hl with | [_, _], _ => rfl⟩
  · obtain ⟨x, y, p, q, rfl, _⟩ := h
    rfl
  · obtain ⟨x, y, p, r, rfl, ⟨a, rfl, ha⟩, ⟨b, rfl, hb⟩, zp, zr, q⟩ := h
    have b1 := zp.n
    have b2 := zp.dd
    have b3 := zr.n
    have b4 := zr.dd
    refine ⟨_, (pss_one (ps_ret (pe_cmpR op_lt (pe_op op_mulX (pe_ix ix_tup (pv 0) pe_int (fun _ _ => rfl)) (pe_ix ix_tup (pv 1) pe_int (fun _ _ => rfl))) (pe_op op_mulX (pe_ix ix_tup (pv 1) pe_int (fun _ _ => rfl)) (pe_ix ix_tup (pv 0) pe_int (fun _ _ => rfl))) (nomark _)))), ?_⟩
    walk_at "rd"
    rw [decide_eq_decide.mpr (lt_iff p r)]
    exact q
end
end Vx
-- pyl
-- big
set_option Elab.async false
set_option linter.all false
set_option maxRecDepth 100000
set_option maxHeartbeats 4000000
namespace Vx
open PySem PySem.Spec PyProof.Rows L2
local macro_rules | `(tactic| walk_at "cl") => `(tactic| first | assumption | exact Bz.mono (Bz.mul (by assumption) (by assumption)) (by decide) | rfl | omega | exact sz_of 0 rfl (by decide) | exact sz_of 1 rfl (by decide) | exact sz_of 2 rfl (by decide) | exact sz_of 3 rfl (by decide) | exact cmuly (by assumption) (by assumption) (by decide) | exact Bz.mono (Bz.mul (by assumption) (by assumption)) (by decide) | decide)
local macro_rules | `(tactic| walk_at "ex") => `(tactic| ((show Exists _); first | apply @Exists.intro V | apply @Exists.intro Int | apply @Exists.intro Addr | apply @Exists.intro (List V) | apply @Exists.intro Nat | apply @Exists.intro Str | apply @Exists.intro Bool | apply @Exists.intro (Option V) | apply @Exists.intro String | apply @Exists.intro Rat | apply @Exists.intro (List Rat)))
local macro_rules | `(tactic| walk_at "rd") => `(tactic| ((repeat (first | (walk_at "ex") | (apply And.intro; (focus (walk_at "cl"))))); (try dsimp only [])))
local macro_rules | `(tactic| walk_at "r0") => `(tactic| (repeat (first | (walk_at "ex") | (apply And.intro; (focus (walk_at "cl"))))))

section
variable {P : Program} {w : World} {K : PySem.W.Frag} {mg : Str → Option Value} {base : Heap}
/-- three rows -/
def spThree (K : PySem.W.Frag) : Sp := fun vs H Q _ => ∃ (a : Addr), vs = [.ref a] ∧ RlAt a H ∧ ∀ t v1 v2 v3 r1 r2 r3 H', RlAt a H' → But a H H' → SqT K H' t [v1, v2, v3] → RwT K H' v1 r1 → RwT K H' v2 r2 → RwT K H' v3 r3 →
  Tr r1 → Tr r2 → Tr r3 → Qs 4 r1 → Qs 10 r2 → Qs 4 r3 → r1.length ≤ 5 → r2.length ≤ 5 → r3.length ≤ 4 → Q (.ref t) H'
end
theorem bTimes_le {l1 b1 l2 b2 n1 n2 B : Nat} (h1 : l1 ≤ n1) (h2 : l2 ≤ n2) (h : bTimes n1 b1 n2 b2 ≤ B) : bTimes l1 b1 l2 b2 ≤ B := by
  refine Nat.le_trans ?_ h
  unfold bTimes
  have a := fold_le (a := b1) (show l1 + 1 ≤ n1 + 1 by omega)
  have b := fold_le (a := b2) (show l2 + 1 ≤ n2 + 1 by omega)
  omega
theorem bWorth_le {l b c n B : Nat} (h1 : l ≤ n) (h : bWorth n b c ≤ B) : bWorth l b c ≤ B := by
  refine Nat.le_trans ?_ h
  unfold bWorth
  have a := fold_le (a := b + c + 1) h1
  omega
theorem bWorth_le2 {l b c n B : Nat} (h1 : l ≤ n) (h : bWorth n b c + b + c ≤ B) : bWorth l b c + b + c ≤ B := by
  have := bWorth_le (b := b) (c := c) h1 (Nat.le_refl _)
  omega
theorem bProd_le {l b1 b2 n B : Nat} (h1 : l ≤ n) (h : bProd n b1 b2 ≤ B) : bProd l b1 b2 ≤ B := by
  refine Nat.le_trans ?_ h
  unfold bProd
  have a := fold_le (a := b1 + b2 + 1) h1
  omega
theorem bProd_le2 {l b1 b2 n B : Nat} (h1 : l ≤ n) (h : bProd n b1 b2 + b1 + b2 ≤ B) : bProd l b1 b2 + b1 + b2 ≤ B := by
  have := bProd_le (b1 := b1) (b2 := b2) h1 (Nat.le_refl _)
  omega
theorem bOwn_le {l b c n B : Nat} (h1 : l ≤ n) (h : bOwn n b c ≤ B) : bOwn l b c ≤ B := by
  refine Nat.le_trans ?_ h
  unfold bOwn
  have a : l * c ≤ n * c := fold_le h1
  have b' : l * (b + l * c + 3) ≤ n * (b + n * c + 3) := Nat.mul_le_mul h1 (by omega)
  omega
theorem bOwn_le2 {l b c n B : Nat} (h1 : l ≤ n) (h : bOwn n b c + b + n * c + c + 1 ≤ B) : bOwn l b c + b + l * c + c + 1 ≤ B := by
  have := bOwn_le (b := b) (c := c) h1 (Nat.le_refl _)
  have a : l * c ≤ n * c := fold_le h1
  omega

end Vx
namespace Vx
open PySem PySem.Spec PyProof.Rows L2
local macro_rules | `(tactic| walk_at "cl") => `(tactic| first | assumption | exact Bz.mono (Bz.mul (by assumption) (by assumption)) (by decide) | rfl | omega | exact sz_of 0 rfl (by decide) | exact sz_of 1 rfl (by decide) | exact sz_of 2 rfl (by decide) | exact sz_of 3 rfl (by decide) | exact cmuly (by assumption) (by assumption) (by decide) | exact Bz.mono (Bz.mul (by assumption) (by assumption)) (by decide) | decide)
local macro_rules | `(tactic| walk_at "ex") => `(tactic| ((show Exists _); first | apply @Exists.intro V | apply @Exists.intro Int | apply @Exists.intro Addr | apply @Exists.intro (List V) | apply @Exists.intro Nat | apply @Exists.intro Str | apply @Exists.intro Bool | apply @Exists.intro (Option V) | apply @Exists.intro String | apply @Exists.intro Rat | apply @Exists.intro (List Rat)))
local macro_rules | `(tactic| walk_at "rd") => `(tactic| ((repeat (first | (walk_at "ex") | (apply And.intro; (focus (walk_at "cl"))))); (try dsimp only [])))
local macro_rules | `(tactic| walk_at "r0") => `(tactic| (repeat (first | (walk_at "ex") | (apply And.intro; (focus (walk_at "cl"))))))
section
variable {P : Program} {w : World} {K : PySem.W.Frag} {mg : Str → Option Value} {base : Heap}
theorem rl_same {a : Addr} {H H' : Hp} (s : Same H H') (h : RlAt a H) : RlAt a H' := by
  obtain ⟨x, y, z, e⟩ := h
  exact ⟨x, y, z, s _ _ e⟩
theorem rl_ne {a p : Addr} {H : Hp} (h : RlAt a H) (hp : H p = none) : p ≠ a := by
  obtain ⟨_, _, _, e⟩ := h
  exact fun z => ne_of_none e hp z.symm
theorem frt_of {H : Hp} {p : Addr} {q : Rat} {i j : Int} (hn : q.num = i) (hd : (q.den : Int) = j) (h : SqT K H p [.int i, .int j]) : FrT K H (.ref p) q := ⟨p, rfl, by rw [hn, hd]; exact h⟩
theorem tr_last {a : List Rat} {c : Rat} (h : c ≠ 0) : Tr (a ++ [c]) := fun hn => by
  rw [List.getLast_append_right (List.cons_ne_nil _ _)]
  exact h
/-- _law_factor: a row of two or three numbers, and the size of its zeros -/
def spFac (K : PySem.W.Frag) : Sp := fun vs H Q _ => ∃ (a : Addr), vs = [.ref a] ∧ RlAt a H ∧ ∀ (t : Addr) (v sv : V) (f : List Rat) (s : Rat) (H' : Hp), RlAt a H' → But a H H' → SqT K H' t [v, sv] → RwT K H' v f → FrT K H' sv s → Qz 4 s → 0 < s → Tr f → Cd 9 10 f → 2 ≤ f.length → f.length ≤ 3 → (∀ y : Rat, 0 < y → (Good (at0 (strR y f)) ↔ y < s)) → Q (.ref t) H'
theorem abs_rat (z : Rat) (hz : z ≠ 0) : ∃ s : Rat, 0 < s ∧ (z = s ∨ z = -s) ∧ s.num = (if z.num < 0 then -z.num else z.num) ∧ s.den = z.den := by
  rcases (by grind : z < 0 ∨ 0 < z) with h | h
  · refine ⟨-z, by grind, .inr (by grind), ?_, Rat.neg_den z⟩
    have h1 : z.num * 1 < 0 * (z.den : Int) := (lt_iff z 0).mpr h
    have : z.num < 0 := by omega
    rw [if_pos this, Rat.neg_num]
  · refine ⟨z, h, .inl rfl, ?_, rfl⟩
    have h1 : 0 * (z.den : Int) < z.num * 1 := (lt_iff 0 z).mpr h
    have : 0 < z.num := by omega
    rw [if_neg (by omega)]
theorem sc__law_factor : FnScope ["reel", "z", "t", "c", "middle"] ["reel"] (defScope s__law_factor) := ⟨rfl, rfl, rfl, by decide +kernel, rfl, by decide +kernel, by decide +kernel⟩
theorem d__law_factor (W : FunIn K mg "_law_factor" s__law_factor) (T : Blt mg) (D_law_pull : Df P w K mg base "_law_pull" 1 ["reel", "many"] spPull) (D_law_one_of : Df P w K mg base "_law_one_of" 2 ["reel", "some"] (spOneOf K)) (D_law_lowest : Df P w K mg base "_law_lowest" 33 ["n", "m"] (spLow K)) (D_law_times : Df P w K mg base "_law_times" 34 ["one", "two"] (spR2 K (fun p q => p * q))) (D_law_over : Df P w K mg base "_law_over" 34 ["one", "two"] (spQ2 K)) : Df P w K mg base "_law_factor" 35 ["reel"] (spFac K) := by
  obtain ⟨f, fd, F, hm⟩ := W
  refine ⟨f, fd, F.ok sc__law_factor (fun vs H Q E h => ?_) (fun cdv A outer s H vs Q E hr h => ?_), hm, F.kp, F.binds fun _ _ _ _ _ _ us hl => match us, hl with | [_], _ => rfl⟩
  · obtain ⟨a, rfl, _⟩ := h
    rfl
  · obtain ⟨a, rfl, hR, q⟩ := h
    have nd := sc__law_factor.nd
    refine ⟨_, (pss_cons (ps_if (pt_cmpR op_eq (pe_d D_law_pull (hr.mono (by decide)) rfl (pa_cons (pv 0) (pa_cons pe_int pa_nil))) pe_int (nomark _)) (pss_cons (ps_set (i := 1) nd rfl (Or.inl rfl) (pe_d D_law_lowest (hr.mono (by decide)) rfl (pa_cons (pe_op op_sub (pe_d D_law_pull (hr.mono (by decide)) rfl (pa_cons (pv 0) (pa_cons pe_int pa_nil))) pe_int) (pa_cons (pe_op op_add pe_int (pe_d D_law_pull (hr.mono (by decide)) rfl (pa_cons (pv 0) (pa_cons pe_int pa_nil)))) pa_nil))))
        (pss_cons (ps_set (i := 1) nd rfl (Or.inl rfl) (pe_ifExp (pt_cmpR op_ne (pe_ix ix_tup (pv 1) pe_int (fun _ _ => rfl)) pe_int (nomark _)) (pv 1) (pe_tup (pa_cons pe_int (pa_cons pe_int pa_nil)))))
        (pss_one (ps_ret (pe_tup (pa_cons (pe_tup (pa_cons (pe_tup (pa_cons pe_int (pa_cons pe_int pa_nil))) (pa_cons (pe_d D_law_over (hr.mono (by decide)) rfl (pa_cons (pe_tup (pa_cons (pe_un un_neg pe_int) (pa_cons pe_int pa_nil))) (pa_cons (pv 1) pa_nil))) pa_nil))) (pa_cons (pe_tup (pa_cons (pe_callB call_abs (by rfl) T.n_abs (by decide +kernel) (pa_cons (pe_ix ix_tup (pv 1) pe_int (fun _ _ => rfl)) pa_nil)) (pa_cons (pe_ix ix_tup (pv 1) pe_int (fun _ _ => rfl)) pa_nil))) pa_nil))))))) pss_nil)
        (pss_cons (ps_par (i := 2) (j := 3) (by rfl) nd rfl rfl (by decide) rfl rfl (pa_cons (pe_d D_law_one_of (hr.mono (by decide)) rfl (pa_cons (pv 0) (pa_cons (pe_lst (pa_cons (pe_tup (pa_cons pe_int (pa_cons pe_int pa_nil))) (pa_cons (pe_tup (pa_cons pe_int (pa_cons pe_int pa_nil))) (pa_cons (pe_tup (pa_cons pe_int (pa_cons pe_int pa_nil))) (pa_cons (pe_tup (pa_cons pe_int (pa_cons pe_int pa_nil))) (pa_cons (pe_tup (pa_cons pe_int (pa_cons pe_int pa_nil))) (pa_cons (pe_tup (pa_cons pe_int (pa_cons pe_int pa_nil))) pa_nil))))))) pa_nil))) (pa_cons (pe_d D_law_lowest (hr.mono (by decide)) rfl (pa_cons (pe_op op_sub (pe_d D_law_pull (hr.mono (by decide)) rfl (pa_cons (pv 0) (pa_cons pe_int pa_nil))) pe_int) (pa_cons pe_int pa_nil))) pa_nil)) (by rfl))
        (pss_cons (ps_set (i := 4) nd rfl (Or.inl rfl) (pe_d D_law_times (hr.mono (by decide)) rfl (pa_cons (pe_tup (pa_cons (pe_un un_neg pe_int) (pa_cons pe_int pa_nil))) (pa_cons (pe_d D_law_times (hr.mono (by decide)) rfl (pa_cons (pv 2) (pa_cons (pv 3) pa_nil))) pa_nil))))
        (pss_one (ps_ret (pe_tup (pa_cons (pe_tup (pa_cons (pe_tup (pa_cons pe_int (pa_cons pe_int pa_nil))) (pa_cons (pv 4) (pa_cons (pe_d D_law_times (hr.mono (by decide)) rfl (pa_cons (pv 2) (pa_cons (pv 2) pa_nil))) pa_nil)))) (pa_cons (pe_d D_law_over (hr.mono (by decide)) rfl (pa_cons (pe_tup (pa_cons pe_int (pa_cons pe_int pa_nil))) (pa_cons (pv 2) pa_nil))) pa_nil)))))))), ?_⟩
    walk_at "rd"
    intro d H1 d0 d1 hR1 b1
    walk_at "rd"
    refine tif (fun _ => ?_) (fun _ => ?_)
    · refine seq_cut (fun σ' H' => ∃ (bz : Addr) (z : Rat), σ' = [some (V.ref a), some (V.ref bz), none, none, none] ∧ RlAt a H' ∧ But a H1 H' ∧ SqT K H' bz [.int z.num, .int (z.den : Int)] ∧ Qz 4 z) (fun nx hnx => ?_) ?_
      · walk_at "rd"
        intro d2 H2 d20 d21 hR2 b2
        walk_at "rd"
        intro d3 H3 d30 d31 hR3 b3
        have h0 : 0 < 1 + d3 := by omega
        have hz : Bz 1900000 (1 + d3) := Bz.mono (b := 4) (by unfold Bz; omega) (by decide)
        walk_at "rd"
        intro v H4 s4 hv
        obtain ⟨bz, rfl, hbz⟩ := hv
        exact hnx _ _ ⟨bz, _, rfl, rl_same s4 hR3, but_trans (but_trans b2 b3) (same_but a s4), hbz, Qz.of_div (by unfold Bz; omega) (by unfold Bz; omega) (by omega)⟩
      rintro _ H2 ⟨bz, z, rfl, hR2, b2, hz, zz⟩
      refine seq_cut (fun σ' H' => ∃ (bz : Addr) (z : Rat), σ' = [some (V.ref a), some (V.ref bz), none, none, none] ∧ RlAt a H' ∧ Same H2 H' ∧ SqT K H' bz [.int z.num, .int (z.den : Int)] ∧ Qz 4 z ∧ z ≠ 0) (fun nx hnx => ?_) ?_
      · walk_at "rd"
        refine tifn (fun h0 => ?_) (fun h0 => ?_)
        · walk_at "rd"
          refine hnx _ _ ⟨_, z, rfl, hR2, Same.refl _, hz, zz, fun e => h0 ?_⟩
          rw [e]
          rfl
        · walk_at "rd"
          intro p hp
          have s3 := same_new (o := .tup [.int 5, .int 1]) hp
          exact hnx _ _ ⟨p, 5, rfl, rl_same s3 hR2, s3, SqT.of upd_same, ⟨by decide, by decide⟩, by decide⟩
      rintro _ H8 ⟨bz, z, rfl, hR8, s8, hz, zz, nz⟩
      refine ⟨sz_of 2 rfl (by decide), fun p9 hp9 => ?_⟩
      have s9 := same_new (o := (.tup [V.int 1, V.int 1])) hp9
      have e9 : upd H8 p9 (.tup [V.int 1, V.int 1]) p9 = some (.tup [V.int 1, V.int 1]) := upd_same
      generalize upd H8 p9 (.tup [V.int 1, V.int 1]) = H9 at s9 e9
      refine ⟨1, rfl, sz_of 2 rfl (by decide), fun p10 hp10 => ?_⟩
      have s10 := same_new (o := (.tup [V.int (-1), V.int 1])) hp10
      have e10 : upd H9 p10 (.tup [V.int (-1), V.int 1]) p10 = some (.tup [V.int (-1), V.int 1]) := upd_same
      generalize upd H9 p10 (.tup [V.int (-1), V.int 1]) = H10 at s10 e10
      refine ⟨V.ref bz, rfl, V.ref p10, V.ref bz, -1, z, rfl, (frt_of (q := -1) (by decide +kernel) (by decide +kernel) (samet_seqT (same_t (Same.refl _)) (SqT.of (K := K) e10))), ⟨bz, rfl, samet_seqT (same_t (s9.trans s10)) hz⟩, nz, ⟨by decide +kernel, by decide +kernel⟩, zz.mono (by decide), fun v H11 s11 hv => ?_⟩
      refine ⟨sz_of 2 rfl (by decide), fun p12 hp12 => ?_⟩
      have s12 := same_new (o := (.tup [V.ref p9, v])) hp12
      have e12 : upd H11 p12 (.tup [V.ref p9, v]) p12 = some (.tup [V.ref p9, v]) := upd_same
      generalize upd H11 p12 (.tup [V.ref p9, v]) = H12 at s12 e12
      have hz' : SqT K H12 bz [.int z.num, .int (z.den : Int)] := samet_seqT (same_t (((s9.trans s10).trans s11).trans s12)) hz
      walk_at "rd"
      intro p13 hp13
      obtain ⟨sz, sz0, sz1, sz2, sz3⟩ := abs_rat z nz
      rw [← sz2, ← sz3]
      have s13 := same_new (o := .tup [V.int sz.num, V.int (sz.den : Int)]) hp13
      have e13 : upd H12 p13 (.tup [V.int sz.num, V.int (sz.den : Int)]) p13 = some (.tup [V.int sz.num, V.int (sz.den : Int)]) := upd_same
      generalize upd H12 p13 (.tup [V.int sz.num, V.int (sz.den : Int)]) = H13 at s13 e13
      walk_at "rd"
      intro p14 hp14
      have s14 := same_new (o := .tup [V.ref p12, V.ref p13]) hp14
      have zs : Qz 4 sz := ⟨by
        have h1 := zz.1
        rw [sz2]
        split <;> omega, by rw [sz3]; exact zz.2⟩
      refine q p14 (V.ref p12) (V.ref p13) [1, -1 / z] sz _ (rl_same (((((s9.trans s10).trans s11).trans s12).trans s13).trans s14) hR8) (but_trans b1 (but_trans b2 (but_trans (same_but a s8) (same_but a (((((s9.trans s10).trans s11).trans s12).trans s13).trans s14))))) (SqT.of upd_same) ⟨p12, _, rfl, (samet_seqT (same_t (s13.trans s14)) (SqT.of (K := K) e12)), .cons (frt_int 1 (samet_seqT (same_t ((((s10.trans s11).trans s12).trans s13).trans s14)) (SqT.of (K := K) e9))) (.cons (hv.mono (same_t ((s12.trans s13).trans s14))) .nil)⟩ ⟨p13, rfl, (samet_seqT (same_t s14) (SqT.of (K := K) e13))⟩ zs sz0 (tr_last (a := [1]) (fun e => (by
        have : z * (-1 / z) = -1 := by grind
        rw [e] at this
        grind))) (cd_zero nz zz) (Nat.le_refl 2) (Nat.le_succ 2) (fun y hy => quick_two hy sz0 sz1)
    · unfold tNext
      dsimp only []
      refine seq_cut (fun σ' H' => ∃ (bt bc : Addr) (n m k : Int), σ' = [some (V.ref a), none, some (V.ref bt), some (V.ref bc), none] ∧ RlAt a H' ∧ But a H1 H' ∧ SqT K H' bt [.int n, .int m] ∧ (Rat.divInt n m).num = n ∧ ((Rat.divInt n m).den : Int) = m ∧ (0 < n ∧ n ≤ 11) ∧ (0 < m ∧ m ≤ 10) ∧ FrT K H' (.ref bc) (Rat.divInt k 4) ∧ (-4 ≤ k ∧ k ≤ 4)) (fun nx hnx => ?_) ?_
      · refine ⟨V.ref a, rfl, sz_of 2 rfl (by decide), fun p2 hp2 => ?_⟩
        have s2 := same_new (o := (.tup [V.int 1, V.int 2])) hp2
        have e2 : upd H1 p2 (.tup [V.int 1, V.int 2]) p2 = some (.tup [V.int 1, V.int 2]) := upd_same
        generalize upd H1 p2 (.tup [V.int 1, V.int 2]) = H2 at s2 e2
        refine ⟨sz_of 2 rfl (by decide), fun p3 hp3 => ?_⟩
        have s3 := same_new (o := (.tup [V.int 2, V.int 3])) hp3
        have e3 : upd H2 p3 (.tup [V.int 2, V.int 3]) p3 = some (.tup [V.int 2, V.int 3]) := upd_same
        generalize upd H2 p3 (.tup [V.int 2, V.int 3]) = H3 at s3 e3
        refine ⟨sz_of 2 rfl (by decide), fun p4 hp4 => ?_⟩
        have s4 := same_new (o := (.tup [V.int 1, V.int 4])) hp4
        have e4 : upd H3 p4 (.tup [V.int 1, V.int 4]) p4 = some (.tup [V.int 1, V.int 4]) := upd_same
        generalize upd H3 p4 (.tup [V.int 1, V.int 4]) = H4 at s4 e4
        refine ⟨sz_of 2 rfl (by decide), fun p5 hp5 => ?_⟩
        have s5 := same_new (o := (.tup [V.int 1, V.int 1])) hp5
        have e5 : upd H4 p5 (.tup [V.int 1, V.int 1]) p5 = some (.tup [V.int 1, V.int 1]) := upd_same
        generalize upd H4 p5 (.tup [V.int 1, V.int 1]) = H5 at s5 e5
        refine ⟨sz_of 2 rfl (by decide), fun p6 hp6 => ?_⟩
        have s6 := same_new (o := (.tup [V.int 3, V.int 2])) hp6
        have e6 : upd H5 p6 (.tup [V.int 3, V.int 2]) p6 = some (.tup [V.int 3, V.int 2]) := upd_same
        generalize upd H5 p6 (.tup [V.int 3, V.int 2]) = H6 at s6 e6
        refine ⟨sz_of 2 rfl (by decide), fun p7 hp7 => ?_⟩
        have s7 := same_new (o := (.tup [V.int 2, V.int 5])) hp7
        have e7 : upd H6 p7 (.tup [V.int 2, V.int 5]) p7 = some (.tup [V.int 2, V.int 5]) := upd_same
        generalize upd H6 p7 (.tup [V.int 2, V.int 5]) = H7 at s7 e7
        refine ⟨sz_of 6 rfl (by decide), fun p8 hp8 => ?_⟩
        have s8 := same_new (o := (.lst [V.ref p2, V.ref p3, V.ref p4, V.ref p5, V.ref p6, V.ref p7])) hp8
        have e8 : upd H7 p8 (.lst [V.ref p2, V.ref p3, V.ref p4, V.ref p5, V.ref p6, V.ref p7]) p8 = some (.lst [V.ref p2, V.ref p3, V.ref p4, V.ref p5, V.ref p6, V.ref p7]) := upd_same
        generalize upd H7 p8 (.lst [V.ref p2, V.ref p3, V.ref p4, V.ref p5, V.ref p6, V.ref p7]) = H8 at s8 e8
        refine ⟨a, p8, _, rfl, rl_same ((((((s2.trans s3).trans s4).trans s5).trans s6).trans s7).trans s8) hR1, SqL.of e8, rl_ne (rl_same (((((s2.trans s3).trans s4).trans s5).trans s6).trans s7) hR1) hp8, (show 0 < 6 by decide), (show 6 < 1000 by decide), fun v H9 hv hR9 b9 => ?_⟩
        have stv := but_samet (rl_same ((((((s2.trans s3).trans s4).trans s5).trans s6).trans s7).trans s8) hR1) b9
        walk_at "rd"
        intro d2 Hd d20 d21 hRd bd
        have hz : Bz 1900000 (4 : Int) := Bz.mono (b := 4) (by unfold Bz; decide) (by decide)
        walk_at "rd"
        intro vc Hc sc hvc
        obtain ⟨bc, rfl, hbc⟩ := hvc
        have fin : ∀ (p : Addr) (n m : Int), SqT K H8 p [.int n, .int m] → (Rat.divInt n m).num = n → ((Rat.divInt n m).den : Int) = m → (0 < n ∧ n ≤ 11) → (0 < m ∧ m ≤ 10) → nx [some (V.ref a), none, some (V.ref p), some (V.ref bc), none] Hc := fun p n m f z1 z2 z3 z4 => hnx _ _ ⟨p, bc, n, m, d2 - 4, rfl, rl_same sc hRd, but_trans (but_trans (but_trans (same_but a ((((((s2.trans s3).trans s4).trans s5).trans s6).trans s7).trans s8)) b9) bd) (same_but a sc), samet_seqT ((stv.trans (but_samet hR9 bd)).trans (same_t sc)) f, z1, z2, z3, z4, ⟨bc, rfl, hbc⟩, by omega⟩
        simp only [List.mem_cons, List.not_mem_nil, or_false] at hv
        rcases hv with rfl | rfl | rfl | rfl | rfl | rfl
        · exact ⟨_, _, rfl, fin p2 1 2 (samet_seqT (same_t (((((s3.trans s4).trans s5).trans s6).trans s7).trans s8)) (SqT.of (K := K) e2)) (by decide +kernel) (by decide +kernel) (by decide) (by decide)⟩
        · exact ⟨_, _, rfl, fin p3 2 3 (samet_seqT (same_t ((((s4.trans s5).trans s6).trans s7).trans s8)) (SqT.of (K := K) e3)) (by decide +kernel) (by decide +kernel) (by decide) (by decide)⟩
        · exact ⟨_, _, rfl, fin p4 1 4 (samet_seqT (same_t (((s5.trans s6).trans s7).trans s8)) (SqT.of (K := K) e4)) (by decide +kernel) (by decide +kernel) (by decide) (by decide)⟩
        · exact ⟨_, _, rfl, fin p5 1 1 (samet_seqT (same_t ((s6.trans s7).trans s8)) (SqT.of (K := K) e5)) (by decide +kernel) (by decide +kernel) (by decide) (by decide)⟩
        · exact ⟨_, _, rfl, fin p6 3 2 (samet_seqT (same_t (s7.trans s8)) (SqT.of (K := K) e6)) (by decide +kernel) (by decide +kernel) (by decide) (by decide)⟩
        · exact ⟨_, _, rfl, fin p7 2 5 (samet_seqT (same_t s8) (SqT.of (K := K) e7)) (by decide +kernel) (by decide +kernel) (by decide) (by decide)⟩
      rintro _ H3 ⟨bt, bc, n, m, k, rfl, hR3, b3, ht, tn, td, hn, hm, hc, hk⟩
      obtain ⟨t, et⟩ : ∃ t, t = Rat.divInt n m := ⟨_, rfl⟩
      obtain ⟨c, ec⟩ : ∃ c, c = Rat.divInt k 4 := ⟨_, rfl⟩
      obtain ⟨cd, hcc, nt⟩ := cd_pair4 hn hm hk et ec
      have ht3 : FrT K H3 (.ref bt) t := ⟨bt, rfl, by rw [et, tn, td]; exact ht⟩
      have zt : Qz 4 t := by rw [et]; exact Qz.of_div (by unfold Bz; omega) (by unfold Bz; omega) (by omega)
      have zc : Qz 4 c := by rw [ec]; exact Qz.of_div (by unfold Bz; omega) (by unfold Bz; decide) (by decide)
      have zi : Qz 4 (1 / t) := qz_inv zt (by grind)
      rw [← ec] at hc
      refine seq_cut (fun σ' H' => ∃ (vm : V), σ' = [some (V.ref a), none, some (V.ref bt), some (V.ref bc), some vm] ∧ Same H3 H' ∧ FrT K H' vm (-2 * (t * c))) (fun nx hnx => ?_) ?_
      · refine ⟨2, rfl, sz_of 2 rfl (by decide), fun p4 hp4 => ?_⟩
        have s4 := same_new (o := (.tup [V.int (-2), V.int 1])) hp4
        have e4 : upd H3 p4 (.tup [V.int (-2), V.int 1]) p4 = some (.tup [V.int (-2), V.int 1]) := upd_same
        generalize upd H3 p4 (.tup [V.int (-2), V.int 1]) = H4 at s4 e4
        refine ⟨V.ref bt, rfl, V.ref bc, rfl, V.ref bt, V.ref bc, t, c, rfl, ht3.mono (same_t s4), hc.mono (same_t s4), zt.mono (by decide), zc.mono (by decide), fun v H5 s5 hv => ?_⟩
        refine ⟨V.ref p4, v, -2, t * c, rfl, (frt_of (by decide +kernel) (by decide +kernel) (SqT.of e4)).mono (same_t s5), hv, ⟨by decide +kernel, by decide +kernel⟩, (Qz.mul zt zc).mono (by decide), fun v2 H6 s6 hv2 => ?_⟩
        exact hnx _ _ ⟨v2, rfl, (s4.trans s5).trans s6, hv2⟩
      rintro _ H4 ⟨vm, rfl, s4, hvm⟩
      refine ⟨sz_of 2 rfl (by decide), fun p5 hp5 => ?_⟩
      have s5 := same_new (o := (.tup [V.int 1, V.int 1])) hp5
      have e5 : upd H4 p5 (.tup [V.int 1, V.int 1]) p5 = some (.tup [V.int 1, V.int 1]) := upd_same
      generalize upd H4 p5 (.tup [V.int 1, V.int 1]) = H5 at s5 e5
      have ht4 : FrT K H5 (.ref bt) t := ht3.mono ((same_t s4).trans (same_t s5))
      refine ⟨vm, rfl, V.ref bt, rfl, V.ref bt, rfl, V.ref bt, V.ref bt, t, t, rfl, ht4, ht4, zt.mono (by decide), zt.mono (by decide), fun v H6 s6 hv => ?_⟩
      refine ⟨sz_of 3 rfl (by decide), fun p7 hp7 => ?_⟩
      have s7 := same_new (o := (.tup [V.ref p5, vm, v])) hp7
      have e7 : upd H6 p7 (.tup [V.ref p5, vm, v]) p7 = some (.tup [V.ref p5, vm, v]) := upd_same
      generalize upd H6 p7 (.tup [V.ref p5, vm, v]) = H7 at s7 e7
      refine ⟨sz_of 2 rfl (by decide), fun p8 hp8 => ?_⟩
      have s8 := same_new (o := (.tup [V.int 1, V.int 1])) hp8
      have e8 : upd H7 p8 (.tup [V.int 1, V.int 1]) p8 = some (.tup [V.int 1, V.int 1]) := upd_same
      generalize upd H7 p8 (.tup [V.int 1, V.int 1]) = H8 at s8 e8
      have ht5 : FrT K H8 (.ref bt) t := ht4.mono (same_t ((s6.trans s7).trans s8))
      refine ⟨V.ref bt, rfl, V.ref p8, V.ref bt, 1, t, rfl, frt_int 1 (SqT.of e8), ht5, by grind, ⟨by decide +kernel, by decide +kernel⟩, zt.mono (by decide), fun vs H9 s9 hvs => ?_⟩
      walk_at "rd"
      intro p10 hp10
      have s10 := same_new (o := .tup [V.ref p7, vs]) hp10
      refine q p10 (V.ref p7) vs [1, -2 * (t * c), t * t] (1 / t) _ (rl_same (s4.trans (((((s5.trans s6).trans s7).trans s8).trans s9).trans s10)) hR3) (but_trans b1 (but_trans b3 (same_but a (s4.trans (((((s5.trans s6).trans s7).trans s8).trans s9).trans s10))))) (SqT.of upd_same) ⟨p7, _, rfl, (samet_seqT (same_t ((s8.trans s9).trans s10)) (SqT.of (K := K) e7)), .cons (frt_int 1 (samet_seqT (same_t ((((s6.trans s7).trans s8).trans s9).trans s10)) (SqT.of (K := K) e5))) (.cons (hvm.mono (same_t (((((s5.trans s6).trans s7).trans s8).trans s9).trans s10))) (.cons (hv.mono (same_t (((s7.trans s8).trans s9).trans s10))) .nil))⟩ (hvs.mono (same_t s10)) zi (by
        have := Rat.inv_pos.mpr nt
        grind) (tr_last (a := [1, -2 * (t * c)]) (fun e => by have := sq_pos (show t ≠ 0 by grind); grind)) cd (Nat.le_succ 2) (Nat.le_refl 3) (fun y hy => quick_three hy nt hcc)
end
end Vx
namespace Vx
open PySem PySem.Spec PyProof.Rows L2
local macro_rules | `(tactic| walk_at "cl") => `(tactic| first | assumption | exact Bz.mono (Bz.mul (by assumption) (by assumption)) (by decide) | rfl | omega | exact sz_of 0 rfl (by decide) | exact sz_of 1 rfl (by decide) | exact sz_of 2 rfl (by decide) | exact sz_of 3 rfl (by decide) | exact cmuly (by assumption) (by assumption) (by decide) | exact Bz.mono (Bz.mul (by assumption) (by assumption)) (by decide) | decide)
local macro_rules | `(tactic| walk_at "ex") => `(tactic| ((show Exists _); first | apply @Exists.intro V | apply @Exists.intro Int | apply @Exists.intro Addr | apply @Exists.intro (List V) | apply @Exists.intro Nat | apply @Exists.intro Str | apply @Exists.intro Bool | apply @Exists.intro (Option V) | apply @Exists.intro String | apply @Exists.intro Rat | apply @Exists.intro (List Rat)))
local macro_rules | `(tactic| walk_at "rd") => `(tactic| ((repeat (first | (walk_at "ex") | (apply And.intro; (focus (walk_at "cl"))))); (try dsimp only [])))
local macro_rules | `(tactic| walk_at "r0") => `(tactic| (repeat (first | (walk_at "ex") | (apply And.intro; (focus (walk_at "cl"))))))
theorem shapedL (qs : List Rat) : SeqAt.shaped (.list (qs.map dFr)) = true := by
  have h := shaped_rw qs
  unfold dRw SeqAt.shaped at h
  unfold SeqAt.shaped
  have h1 := canLay_rw qs
  have h2 := depth_rw qs
  rw [Bool.and_eq_true]
  refine ⟨by simpa [PyData.canLay0] using h1, decide_eq_true ?_⟩
  simp only [PyData.depth]
  omega
theorem rEqD_nil {K : PySem.W.Frag} {H : Hp} {l e : Addr} {vs : List V} {qs : List Rat} {Q : VK} (hl : SqL K H l vs) (hA : FrA K H vs qs) (he : SqL K H e []) (h : Q (.bl (decide (qs = []))) H) : rEqD K (.ref l) (.ref e) H Q :=
  ⟨.list (qs.map dFr), .list [], Dp.lst hl (dp_rwA hA), Dp.lst he .nil, shapedL qs, rfl, by
    show Q (.bl (PyData.eqvAll (qs.map dFr) (([] : List Rat).map dFr))) H
    rw [eqv_rw]
    exact h⟩
theorem rNeD_nil {K : PySem.W.Frag} {H : Hp} {l e : Addr} {vs : List V} {qs : List Rat} {Q : VK} (hl : SqL K H l vs) (hA : FrA K H vs qs) (he : SqL K H e []) (h : Q (.bl (!decide (qs = []))) H) : rNeD K (.ref l) (.ref e) H Q :=
  ⟨.list (qs.map dFr), .list [], Dp.lst hl (dp_rwA hA), Dp.lst he .nil, shapedL qs, rfl, by
    show Q (.bl (!PyData.eqvAll (qs.map dFr) (([] : List Rat).map dFr))) H
    rw [eqv_rw]
    exact h⟩
theorem share_iff {z : Rat} (h0 : 0 < z) (h1 : z ≤ 1) : 0 < z.num ∧ z.num ≤ (z.den : Int) := by
  have a : 0 * (z.den : Int) < z.num * 1 := (lt_iff 0 z).mpr h0
  have b : ¬ 1 * (z.den : Int) < z.num * 1 := fun h => by
    have : (1 : Rat) < z := (lt_iff 1 z).mp h
    grind
  omega
theorem div_share {n m : Int} (h1 : 1 ≤ n) (h2 : n ≤ m) : 0 < Rat.divInt n m ∧ Rat.divInt n m ≤ 1 := by
  rw [Rat.divInt_eq_div]
  have a : (0 : Rat) < (n : Rat) := by exact_mod_cast (show (0 : Int) < n by omega)
  have b : (n : Rat) ≤ (m : Rat) := by exact_mod_cast h2
  have c : (0 : Rat) < (m : Rat) := by exact_mod_cast (show (0 : Int) < m by omega)
  generalize (n : Rat) = x at *
  generalize (m : Rat) = y at *
  obtain ⟨q, rfl⟩ : ∃ q, x = q * y := ⟨x / y, by grind⟩
  have e : q * y / y = q := by grind
  rw [e]
  constructor
  · refine Classical.byContradiction fun z => ?_
    have := mul_le (Rat.le_of_lt c) (show q ≤ 0 by grind)
    grind
  · refine Classical.byContradiction fun z => ?_
    have := Rat.mul_lt_mul_of_pos_left (show 1 < q by grind) c
    grind
theorem qz_powb {c : Rat} (h : Qz 4 c) : ∀ i : Nat, i ≠ 0 → Qz (4 * i) (c ^ i)
  | 0, h0 => absurd rfl h0
  | i + 1, _ => by
    rw [Rat.pow_succ]
    by_cases hi : i = 0
    · subst hi
      rw [Rat.pow_zero, show 1 * c = c by grind]
      exact h
    · exact (Qz.mul (qz_powb h i hi) h).mono (by omega)
theorem and_go {i j : Nat} {σ : L2.St} {H : Hp} {Q : VK} {c d : Bool} (h1 : σ[i]? = some (some (V.bl c))) (h2 : σ[j]? = some (some (V.bl d))) (q : Q (.bl (c && d)) H) : tAndV (tVar i) (tVar j) σ H Q := by
  refine ⟨V.bl c, h1, c, rfl, ?_⟩
  cases c with
  | true => rw [if_pos rfl]; exact ⟨V.bl d, h2, q⟩
  | false => rw [if_neg Bool.false_ne_true]; exact q
section
variable {P : Program} {w : World} {K : PySem.W.Frag} {mg : Str → Option Value} {base : Heap}
/-- is_quick -/
def spQk (K : PySem.W.Frag) (tb : Addr) : Sp := fun vs H Q _ => ∃ (x y : V) (r : List Rat) (z : Rat) (d e n : Nat), vs = [x, y] ∧ RwT K H x r ∧ FrT K H y z ∧ Tr r ∧ r ≠ [] ∧ H tb = some (tabX tb) ∧ 0 < z.num ∧ z.num ≤ (z.den : Int) ∧ Qz 5 z ∧ Cd d e r ∧ r.length ≤ n + 1 ∧ n ≤ 10 ∧ d ≤ 100 ∧ e ≤ 110 ∧ ∀ H', Same H H' → Q (.bl (fb ((strR (1 / z) r).length - 1) (strR (1 / z) r)).isSome) H'
theorem sc_is_quick : FnScope ["row", "fraction"] ["row", "fraction"] (defScope s_is_quick) := ⟨rfl, rfl, rfl, by decide +kernel, rfl, by decide +kernel, by decide +kernel⟩
theorem d_is_quick {tb aONE : Addr} (W : FunIn K mg "is_quick" s_is_quick) (hONE : OneC K mg aONE) (Dcheck_filled_row : Df P w K mg base "check_filled_row" 4 ["given"] (spCkFil K tb)) (Dis_share : Df P w K mg base "is_share" 34 ["value"] (spShr K)) (Dratio_over : Df P w K mg base "ratio_over" 34 ["one", "other"] (spQ2 K)) (Dstretched : Df P w K mg base "stretched" 35 ["row", "fraction"] (spStr K true)) (Dfound_bends : Df P w K mg base "found_bends" 35 ["row"] (spFb K)) : Dk P w K mg base "is_quick" 36 ["row", "fraction"] "fraction" "row" (spQk K tb) := by
  obtain ⟨f, fd, F, hm⟩ := W
  refine ⟨f, fd, F.ok sc_is_quick (fun vs H Q E h => ?_) (fun cdv A outer s H vs Q E hr h => ?_), hm, F.kp, F.binds fun _ _ _ _ _ _ us hl => match us, hl with | [_, _], _ => rfl, ?_⟩
  · obtain ⟨x, y, r, z, d, e, n, rfl, _⟩ := h
    rfl
  · obtain ⟨x, y, r, z, d, e, n, rfl, hx, hy, ht, nr, htb, h0, h1, zz, cd, hl, hn, hd, he, q⟩ := h
    have nz : z ≠ 0 := fun e => by
      rw [e] at h0
      exact absurd h0 (by decide)
    have zi : Qz 5 (1 / z) := qz_inv zz nz
    have iz : 1 / z ≠ 0 := by grind
    have hpos := List.length_pos_iff.mpr nr
    refine ⟨_, (pss_cons (ps_expr (pe_d Dcheck_filled_row (hr.mono (by decide)) rfl (pa_cons (pv 0) pa_nil)))
        (pss_cons (ps_if (pt_not (pt_val (pe_d Dis_share (hr.mono (by decide)) rfl (pa_cons (pv 1) pa_nil)))) (pss_one ps_absurd) pss_nil)
        (pss_one (ps_ret (pe_cmpR op_notN (pe_d Dfound_bends (hr.mono (by decide)) rfl (pa_cons (pe_d Dstretched (hr.mono (by decide)) rfl (pa_cons (pv 0) (pa_cons (pe_d Dratio_over (hr.mono (by decide)) rfl (pa_cons (pe_glob (v := .ref aONE) rfl hONE.g rfl) (pa_cons (pv 1) pa_nil))) pa_nil))) pa_nil)) pe_non (nomark _)))))), ?_⟩
    refine ⟨x, rfl, x, r, rfl, hx, ht, nr, htb, fun H1 s1 => ?_⟩
    refine ⟨y, rfl, y, z, rfl, hy.mono (same_t s1), h0, h1, true, rfl, ?_⟩
    refine ⟨x, rfl, y, rfl, .ref aONE, y, 1, z, rfl, hONE.fr H1, hy.mono (same_t s1), nz, qz1 (by decide), zz.mono (by decide), fun v H2 s2 hv => ?_⟩
    have st2 := (same_t s1).trans (same_t s2)
    refine ⟨x, v, r, 1 / z, 201, 5, rfl, hx.mono st2, hv, iz, cd_qs cd (by omega) (by omega), zi, by decide, by decide, by omega, by omega, fun w H3 s3 hw => ?_⟩
    have lw : (strR (1 / z) r).length - 1 ≤ 10 := by
      rw [str_len]
      omega
    refine ⟨w, strR (1 / z) r, d + 5 * n, e + 5 * n, rfl, hw, str_ne nr, cd_str cd zi hl, by omega, by omega, by omega, Nat.le_trans (Nat.mul_le_mul (show e + 5 * n + 2 ≤ 162 by omega) (Nat.pow_le_pow_right (by decide) lw)) (by decide), fun hn H4 s4 => ?_, fun bs hs v4 H4 s4 hv4 => ?_⟩
    · have := q H4 (((s1.trans s2).trans s3).trans s4)
      rw [hn] at this
      exact ⟨rfl, this⟩
    · have := q H4 (((s1.trans s2).trans s3).trans s4)
      rw [hs] at this
      obtain ⟨a, us, rfl, _, _⟩ := hv4
      exact ⟨rfl, this⟩
  · obtain ⟨oc, od, kV, doc, pm, an, cdv, ct, osl, rfl, lk, hcd⟩ := F.ex
    exact fun s u v => BindsTo.of_eq (by first | rfl | with_unfolding_all rfl)
end
section
variable {P : Program} {w : World} {K : PySem.W.Frag} {mg : Str → Option Value} {base : Heap}
def spRight (tb : Addr) : Sp := fun vs H Q _ => ∃ (a : Addr), vs = [.ref a] ∧ RlAt a H ∧ H tb = some (tabX tb) ∧ ∀ H', But a H H' → Q (.bl true) H'
theorem sc__law_right : FnScope ["reel", "row", "sizes", "turn", "factor", "size", "m", "x", "near", "beyond", "due", "told", "other", "late", "more"] ["reel"] (defScope s__law_right) := ⟨rfl, rfl, rfl, by decide +kernel, rfl, by decide +kernel, by decide +kernel⟩
theorem d__law_right {tb : Addr} (W : FunIn K mg "_law_right" s__law_right) (T : Blt mg) (sy : Sys base) (D_law_pull : Df P w K mg base "_law_pull" 1 ["reel", "many"] (spPull)) (D_law_some : Df P w K mg base "_law_some" 35 ["reel"] (spSome K)) (D_law_factor : Df P w K mg base "_law_factor" 35 ["reel"] (spFac K)) (D_law_product : Df P w K mg base "_law_product" 35 ["one", "two"] (spProd K)) (D_law_lowest : Df P w K mg base "_law_lowest" 33 ["n", "m"] (spLow K)) (D_law_over : Df P w K mg base "_law_over" 34 ["one", "two"] (spQ2 K)) (D_law_below : Df P w K mg base "_law_below" 33 ["one", "two"] (spBelow K)) (D_law_led : Df P w K mg base "_law_led" 37 ["reel", "most"] (spLed K)) (D_law_bends : Df P w K mg base "_law_bends" 37 ["row"] (spLB K)) (D_law_stretched : Df P w K mg base "_law_stretched" 35 ["row", "x"] (spStr K false)) (Krow_product : Dk P w K mg base "row_product" 37 ["row", "other"] "other" "row" (spCk K tb (spTimes K))) (Kis_quick : Dk P w K mg base "is_quick" 36 ["row", "fraction"] "fraction" "row" (spQk K tb)) (Kis_steady : Dj P w K mg base "is_steady" 36 ["row"] "row" (spStd K tb)) : Dg P w K mg base "_law_right" 38 ["reel"] (spRight tb) := by
  have Drow_product := Krow_product.df
  have Dis_quick := Kis_quick.df
  have Dis_steady := Kis_steady.df
  obtain ⟨f, fd, F, hm⟩ := W
  refine ⟨f, fd, gok F sc__law_right (fun vs H Q E h => ?_) (fun cdv A outer s H vs Q E ng hr h => ?_), hm, F.kp, F.binds fun _ _ _ _ _ _ us hl => match us, hl with | [_], _ => rfl⟩
  · obtain ⟨a, rfl, _⟩ := h
    rfl
  · obtain ⟨a, rfl, hR, htb, q⟩ := h
    have nd := sc__law_right.nd
    refine ⟨_, (pss_cons (ps_par (i := 1) (j := 2) (by rfl) nd rfl rfl (by decide) rfl rfl (pa_cons (pe_tup (pa_cons (pe_d D_law_some (hr.mono (by decide)) rfl (pa_cons (pv 0) pa_nil)) pa_nil)) (pa_cons (pe_lst pa_nil) pa_nil)) (by rfl))
        (pss_cons (ps_for PassesOwn.never rfl (pi_range1 rfl T.n_range (pa_cons (pe_d D_law_pull (hr.mono (by decide)) rfl (pa_cons (pv 0) (pa_cons pe_int pa_nil))) pa_nil)) (pg_name (i := 3) nd rfl (Or.inl rfl) (Or.inr rfl)) (pss_cons (ps_asg (pe_d D_law_factor (hr.mono (by decide)) rfl (pa_cons (pv 0) pa_nil)) (pg_tup rfl (pgs_cons (pg_name (i := 4) nd rfl (Or.inl rfl) (Or.inr rfl)) (pgs_cons (pg_name (i := 5) nd rfl (Or.inl rfl) (Or.inr rfl)) pgs_nil))))
        (pss_one (ps_par (i := 1) (j := 2) (by rfl) nd rfl rfl (by decide) rfl rfl (pa_cons (pe_d D_law_product (hr.mono (by decide)) rfl (pa_cons (pv 1) (pa_cons (pv 4) pa_nil))) (pa_cons (pe_op op_cat (pv 2) (pe_lst (pa_cons (pv 5) pa_nil))) pa_nil)) (by rfl)))))
        (pss_cons (ps_set (i := 6) nd rfl (Or.inl rfl) (pe_op op_add pe_int (pe_d D_law_pull (hr.mono (by decide)) rfl (pa_cons (pv 0) (pa_cons pe_int pa_nil)))))
        (pss_cons (ps_set (i := 7) nd rfl (Or.inl rfl) (pe_tup (pa_cons (pe_op op_add pe_int (pe_d D_law_pull (hr.mono (by decide)) rfl (pa_cons (pv 0) (pa_cons (pv 6) pa_nil)))) (pa_cons (pv 6) pa_nil))))
        (pss_cons (ps_set (i := 7) nd rfl (Or.inl rfl) (pe_d D_law_lowest (hr.mono (by decide)) rfl (pa_cons (pe_ix ix_tup (pv 7) pe_int (fun _ _ => rfl)) (pa_cons (pe_ix ix_tup (pv 7) pe_int (fun _ _ => rfl)) pa_nil))))
        (pss_cons (ps_if (PW.pt (pw_and (pt_cmpR (op_neD (hu64 hr)) (pv 2) (pe_lst pa_nil) (nomark _)) (pw_and1 (pt_cmpR op_eq (pe_d D_law_pull (hr.mono (by decide)) rfl (pa_cons (pv 0) (pa_cons pe_int pa_nil))) pe_int (nomark _))))) (pss_cons (ps_set (i := 8) nd rfl (Or.inl rfl) (pe_d D_law_over (hr.mono (by decide)) rfl (pa_cons (pe_tup (pa_cons pe_int (pa_cons pe_int pa_nil))) (pa_cons (pe_ix ix_list (pv 2) pe_int (fun _ _ => rfl)) pa_nil))))
        (pss_one (ps_set (i := 7) nd rfl (Or.inl rfl) (pe_ifExp (pt_not (pt_val (pe_d D_law_below (hr.mono (by decide)) rfl (pa_cons (pe_tup (pa_cons pe_int (pa_cons pe_int pa_nil))) (pa_cons (pv 8) pa_nil))))) (pv 8) (pv 7))))) pss_nil)
        (pss_cons (ps_set (i := 9) nd rfl (Or.inr rfl) (pe_d D_law_over (hr.mono (by decide)) rfl (pa_cons (pe_tup (pa_cons pe_int (pa_cons pe_int pa_nil))) (pa_cons (pv 7) pa_nil))))
        (pss_cons (ps_set (i := 10) nd rfl (Or.inl rfl) (pe_cmpR (op_eqD (hu64 hr)) (pe_lc (own := [("size", 5)]) rfl nd (pi_list (pv 2)) (blkOk_by (own := [("size", 5)]) (N := ["reel", "row", "sizes", "turn", "factor", "size", "m", "x", "near", "beyond", "due", "told", "other", "late", "more"]) (sc := defScope s__law_right) (by decide +kernel)) (fun _ _ _ _ _ => (pg_name (i := 5) nd rfl (Or.inl rfl) (Or.inr rfl))) (fun _ _ _ _ _ => (pts_one (pt_not (pt_val (pe_d D_law_below (hr.mono (by decide)) rfl (pa_cons (pv 9) (pa_cons (pv 5) pa_nil))))))) (fun _ _ _ _ _ => (pv 5))) (pe_lst pa_nil) (nomark _)))
        (pss_cons (ps_set (i := 11) nd rfl (Or.inl rfl) (pe_lst (pa_cons (pe_d Dis_quick (hr.mono (by decide)) rfl (pa_cons (pv 1) (pa_cons (pv 7) pa_nil))) (pa_cons (pe_kw2 Kis_quick (hr.mono (by decide)) rfl (pk_cons (pv 7) (pk_cons (pv 1) pk_nil))) (pa_cons (pe_d Dis_quick (hr.mono (by decide)) rfl (pa_cons (pv 1) (pa_cons (pe_tup (pa_cons pe_int (pa_cons pe_int pa_nil))) pa_nil))) pa_nil)))))
        (pss_cons (ps_if (pt_cmpR op_ne (pe_callB (call_repr sy ng (hu64 hr)) (by rfl) T.n_repr (by decide +kernel) (pa_cons (pv 11) pa_nil)) (pe_callB (call_repr sy ng (hu64 hr)) (by rfl) T.n_repr (by decide +kernel) (pa_cons (pe_lst (pa_cons (pv 10) (pa_cons (pv 10) (pa_cons (pe_d Dis_steady (hr.mono (by decide)) rfl (pa_cons (pv 1) pa_nil)) pa_nil)))) pa_nil)) (nomark _)) (pss_one (ps_ret pe_bl)) pss_nil)
        (pss_cons (ps_set (i := 12) nd rfl (Or.inl rfl) (pe_d D_law_led (hr.mono (by decide)) rfl (pa_cons (pv 0) (pa_cons pe_int pa_nil))))
        (pss_cons (ps_set (i := 13) nd rfl (Or.inl rfl) (pe_cmpR op_notN (pe_d D_law_bends (hr.mono (by decide)) rfl (pa_cons (pe_d D_law_stretched (hr.mono (by decide)) rfl (pa_cons (pv 12) (pa_cons (pv 7) pa_nil))) pa_nil)) pe_non (nomark _)))
        (pss_cons (ps_if (pt_cmpR op_ne (pe_callB (call_repr sy ng (hu64 hr)) (by rfl) T.n_repr (by decide +kernel) (pa_cons (pe_lst (pa_cons (pe_d Dis_quick (hr.mono (by decide)) rfl (pa_cons (pv 12) (pa_cons (pv 7) pa_nil))) (pa_cons (pe_d Dis_quick (hr.mono (by decide)) rfl (pa_cons (pe_d Drow_product (hr.mono (by decide)) rfl (pa_cons (pv 12) (pa_cons (pv 1) pa_nil))) (pa_cons (pv 7) pa_nil))) pa_nil))) pa_nil)) (pe_callB (call_repr sy ng (hu64 hr)) (by rfl) T.n_repr (by decide +kernel) (pa_cons (pe_lst (pa_cons (pv 13) (pa_cons (pe_and (pv 13) (pe_one (pv 10))) pa_nil))) pa_nil)) (nomark _)) (pss_one (ps_ret pe_bl)) pss_nil)
        (pss_cons (ps_set (i := 14) nd rfl (Or.inl rfl) (pe_d D_law_lowest (hr.mono (by decide)) rfl (pa_cons (pe_op op_add (pe_ix ix_tup (pv 7) pe_int (fun _ _ => rfl)) (pe_ix ix_tup (pv 7) pe_int (fun _ _ => rfl))) (pa_cons (pe_op op_mulX pe_int (pe_ix ix_tup (pv 7) pe_int (fun _ _ => rfl))) pa_nil))))
        (pss_one (ps_ret (pe_or (pe_not (pv 10)) (pe_one (pe_cmpR op_isBl (pe_d Dis_quick (hr.mono (by decide)) rfl (pa_cons (pv 1) (pa_cons (pv 14) pa_nil))) pe_bl (nomark _)))))))))))))))))))), ?_⟩
    refine seq_cut (fun σ' H' => ∃ (v : V) (k : Rat) (l : Addr), σ' = [some (V.ref a), some v, some (V.ref l), none, none, none, none, none, none, none, none, none, none, none, none] ∧ RlAt a H' ∧ But a H H' ∧ RwT K H' v [k] ∧ k ≠ 0 ∧ Qz 4 k ∧ H' l = some (.lst []) ∧ l ≠ a) (fun nx hnx => ?_) ?_
    · refine ⟨V.ref a, rfl, a, rfl, hR, fun y k H1 hR1 b1 hy zk nk => ?_⟩
      refine ⟨sz_of 1 rfl (by decide), fun p2 hp2 => ?_⟩
      have s2 := same_new (o := (.tup [y])) hp2
      have e2 : upd H1 p2 (.tup [y]) p2 = some (.tup [y]) := upd_same
      generalize upd H1 p2 (.tup [y]) = H2 at s2 e2
      refine ⟨sz_of 0 rfl (by decide), fun p3 hp3 => ?_⟩
      have s3 := same_new (o := (.lst [])) hp3
      refine ⟨_, _, rfl, hnx _ _ ⟨V.ref p2, k, p3, rfl, rl_same (s2.trans s3) hR1, but_trans b1 (same_but a (s2.trans s3)), ⟨p2, _, rfl, SqT.of (s3 _ _ e2), .cons (hy.mono (same_t (s2.trans s3))) .nil⟩, nk, zk, upd_same, rl_ne (rl_same s2 hR1) hp3⟩⟩
    rintro _ H1 ⟨v1, k1, l1, rfl, hR1, b1, hv1, nk1, zk1, el1, nl1⟩
    refine seq_cut (fun σ' H' => ∃ (v : V) (r : List Rat) (l : Addr) (vs : List V) (ss : List Rat) (o3 o4 o5 : Option V), σ' = [some (V.ref a), some v, some (V.ref l), o3, o4, o5, none, none, none, none, none, none, none, none, none] ∧ RlAt a H' ∧ But a H1 H' ∧ RwT K H' v r ∧ Tr r ∧ r ≠ [] ∧ Cd 31 40 r ∧ r.length ≤ 7 ∧ H' l = some (.lst vs) ∧ l ≠ a ∧ FrA K H' vs ss ∧ ss.length ≤ 3 ∧ (∀ s ∈ ss, 0 < s ∧ Qz 4 s) ∧ ∀ y : Rat, 0 < y → (Good (at0 (strR y r)) ↔ ∀ s ∈ ss, y < s)) (fun nx hnx => ?_) ?_
    · refine ⟨V.ref a, rfl, a, 4, rfl, hR1, by decide, by decide, fun d H2 d0 d1 hR2 b2 => ?_⟩
      have st2 := but_samet hR1 b2
      obtain ⟨n, rfl⟩ : ∃ n : Nat, d = (n : Int) := ⟨d.toNat, by omega⟩
      refine ⟨(n : Int), rfl, by omega, by omega, ?_⟩
      refine for_range (lo := 0) (n := n) (D := { nx := nx, rt := Q }) (fun i σ H' => ∃ (v : V) (r : List Rat) (l : Addr) (vs : List V) (ss : List Rat) (o3 o4 o5 : Option V), σ = [some (V.ref a), some v, some (V.ref l), o3, o4, o5, none, none, none, none, none, none, none, none, none] ∧ RlAt a H' ∧ But a H1 H' ∧ RwT K H' v r ∧ Tr r ∧ r ≠ [] ∧ Cd (4 + 9 * i) (4 + 12 * i) r ∧ r.length ≤ 1 + 2 * i ∧ H' l = some (.lst vs) ∧ l ≠ a ∧ FrA K H' vs ss ∧ ss.length ≤ i ∧ (∀ s ∈ ss, 0 < s ∧ Qz 4 s) ∧ ∀ y : Rat, 0 < y → (Good (at0 (strR y r)) ↔ ∀ s ∈ ss, y < s)) ⟨v1, [k1], l1, [], [], none, none, none, rfl, hR2, b2, hv1.mono st2, tr_last (a := []) nk1, List.cons_ne_nil _ _, cd_one k1 zk1, Nat.le_refl 1, b2 _ _ el1 nl1, nl1, .nil, Nat.le_refl 0, fun s hs => (by cases hs), fun y hy => ⟨fun _ s hs => (by cases hs), fun _ => good_one (by rw [str_len]; rfl) (by rw [at0_str, Rat.pow_zero]; show k1 * 1 ≠ 0; grind)⟩⟩ ?_ ?_
      · rintro i σ H3 hi ⟨v, r, l, vs, ss, o3, o4, o5, rfl, hR3, b3, hv, tr, nr, cr, lr, el, nl, hA, la, hs, hg⟩
        refine ⟨V.ref a, rfl, a, rfl, hR3, fun t w sw g sz H4 hR4 b4 ht hw hsw zsz psz tg cg lg2 lg3 gg => ?_⟩
        have st4 := but_samet hR3 b4
        refine ⟨t, _, rfl, ht, rfl, ?_⟩
        refine ⟨_, _, rfl, ⟨_, _, rfl, rfl, ?_⟩⟩
        have ng : g ≠ [] := fun z => by rw [z] at lg2; exact absurd lg2 (by decide)
        refine ⟨v, rfl, w, rfl, v, w, r, g, 41, 11, rfl, hv.mono st4, hw, cd_qs cr (by omega) (by omega), cd_qs cg (by decide) (by decide), by omega, by omega, bProd_le2 (n := 7) (by omega) (by decide), fun v6 r6 H6 s6 hv6 tr6 ev6 q6 l6 => ?_⟩
        have ev7 : ∀ z, ev r6 z = ev g z * ev r z := fun z => by rw [ev6]; exact Rat.mul_comm _ _
        have cd7 := cd_prod (k := 2) cg cr (Nat.le_trans lg3 (by decide)) tg tr tr6 ev7
        have ln7 := prod_len tr tg tr6 ev6 lr lg3
        have ne7 := prod_ne tr tg nr ng tr6 ev6
        refine ⟨V.ref l, rfl, sw, rfl, sz_of 1 rfl (by decide), fun p7 hp7 => ?_⟩
        have s7 := same_new (o := (.lst [sw])) hp7
        have e7 : upd H6 p7 (.lst [sw]) p7 = some (.lst [sw]) := upd_same
        generalize upd H6 p7 (.lst [sw]) = H7 at s7 e7
        have el7 := s7 _ _ (s6 _ _ (b4 _ _ el nl))
        have hl := hA.length
        refine ⟨l, p7, vs, [sw], rfl, rfl, el7, e7, by rw [sizeLine_eq]; show vs.length + 1 ≤ _; omega, fun p8 hp8 => ?_⟩
        have s8 := same_new (o := (.lst (vs ++ [sw]))) hp8
        have st8 := (same_t s6).trans ((same_t s7).trans (same_t s8))
        refine ⟨_, _, rfl, v6, r6, p8, vs ++ [sw], ss ++ [sz], _, _, _, rfl, rl_same (s6.trans (s7.trans s8)) hR4, but_trans b3 (but_trans b4 (same_but a (s6.trans (s7.trans s8)))), hv6.mono ((same_t s7).trans (same_t s8)), tr6, ne7, cd_mono cd7 (by omega) (by omega), by omega, upd_same, rl_ne (rl_same (s6.trans s7) hR4) hp8, (fra_mono (st4.trans st8) hA).append (.cons (hsw.mono st8) .nil), by rw [List.length_append, List.length_singleton]; omega, fun s h => ?_, fun y hy => ?_⟩
        · rcases List.mem_append.mp h with h | h
          · exact hs s h
          · rw [List.mem_singleton.mp h]
            exact ⟨psz, zsz⟩
        · rw [good_str ev6, hg y hy, gg y hy]
          constructor
          · rintro ⟨h1, h2⟩ s h
            rcases List.mem_append.mp h with h | h
            · exact h1 s h
            · rw [List.mem_singleton.mp h]
              exact h2
          · exact fun h => ⟨fun s hs => h s (List.mem_append_left _ hs), h sz (List.mem_append_right _ (List.mem_singleton.mpr rfl))⟩
      · rintro σ H3 ⟨v, r, l, vs, ss, o3, o4, o5, rfl, hR3, b3, hv, tr, nr, cr, lr, el, nl, hA, la, hs, hg⟩
        exact hnx _ _ ⟨v, r, l, vs, ss, o3, o4, o5, rfl, hR3, b3, hv, tr, nr, cd_mono cr (by omega) (by omega), by omega, el, nl, hA, by omega, hs, hg⟩
    rintro _ H2 ⟨v, r, l, vs, ss, o3, o4, o5, rfl, hR2, b2, hv, tr, nr, cr, lr, el, nl, hA, la, hs, hg⟩
    have b12 := but_trans b1 b2
    have htb2 := tab_mono ((but_samet hR b1).trans (but_samet hR1 b2)) htb
    clear b1 b2 hR1 hv1 el1 nl1
    refine seq_cut (fun σ' H' => ∃ (m : Int), σ' = [some (V.ref a), some v, some (V.ref l), o3, o4, o5, some (V.int m), none, none, none, none, none, none, none, none] ∧ RlAt a H' ∧ But a H2 H' ∧ 1 ≤ m ∧ m ≤ 9) (fun nx hnx => ?_) ?_
    · walk_at "rd"
      intro d H3 d0 d1 hR3 b3
      walk_at "rd"
      exact hnx _ _ ⟨1 + d, rfl, hR3, b3, by omega, by omega⟩
    rintro _ H3 ⟨m, rfl, hR3, b3, m1, m9⟩
    refine seq_cut (fun σ' H' => ∃ (px : Addr) (n : Int), σ' = [some (V.ref a), some v, some (V.ref l), o3, o4, o5, some (V.int m), some (V.ref px), none, none, none, none, none, none, none] ∧ RlAt a H' ∧ But a H3 H' ∧ SqT K H' px [.int n, .int m] ∧ 1 ≤ n ∧ n ≤ m) (fun nx hnx => ?_) ?_
    · refine ⟨V.ref a, rfl, V.int m, rfl, a, m, rfl, hR3, by omega, by omega, fun d H4 d0 d1 hR4 b4 => ?_⟩
      walk_at "rd"
      intro p hp
      have s5 := same_new (o := (.tup [V.int (1 + d), V.int m])) hp
      exact hnx _ _ ⟨p, 1 + d, rfl, rl_same s5 hR4, but_trans b4 (same_but a s5), SqT.of upd_same, by omega, by omega⟩
    rintro _ H4 ⟨px, n, rfl, hR4, b4, hpx, n1, nm⟩
    refine seq_cut (fun σ' H' => ∃ (px : Addr) (z : Rat), σ' = [some (V.ref a), some v, some (V.ref l), o3, o4, o5, some (V.int m), some (V.ref px), none, none, none, none, none, none, none] ∧ Same H4 H' ∧ SqT K H' px [.int z.num, .int (z.den : Int)] ∧ 0 < z ∧ z ≤ 1 ∧ Qz 4 z) (fun nx hnx => ?_) ?_
    · have h0 : 0 < m := by omega
      have hz : Bz 1900000 m := Bz.mono (b := 4) (by unfold Bz; omega) (by decide)
      walk_at "rd"
      intro w H5 s5 hw
      obtain ⟨b, rfl, hb⟩ := hw
      exact hnx _ _ ⟨b, _, rfl, s5, hb, (div_share n1 nm).1, (div_share n1 nm).2, Qz.of_div (by unfold Bz; omega) (by unfold Bz; omega) (by omega)⟩
    rintro _ H5 ⟨px, z, rfl, s5, hpx, z0, z1, zz⟩
    have hR5 := rl_same s5 hR4
    have b25 := but_trans b3 (but_trans b4 (same_but a s5))
    clear hR4 b4 b3 hR3 s5
    refine seq_cut (fun σ' H' => ∃ (px : Addr) (z : Rat) (o8 : Option V), σ' = [some (V.ref a), some v, some (V.ref l), o3, o4, o5, some (V.int m), some (V.ref px), o8, none, none, none, none, none, none] ∧ RlAt a H' ∧ But a H5 H' ∧ SqT K H' px [.int z.num, .int (z.den : Int)] ∧ 0 < z ∧ z ≤ 1 ∧ Qz 4 z) (fun nx hnx => ?_) ?_
    · have el5 := b25 _ _ el nl
      have hA5 := fra_mono (but_samet hR2 b25) hA
      refine ⟨V.ref l, rfl, sz_of 0 rfl (by decide), fun pe hpe => ?_⟩
      have s6 := same_new (o := (.lst [])) hpe
      have e6 : upd H5 pe (.lst []) pe = some (.lst []) := upd_same
      have el6 := s6 _ _ el5
      have hA6 := fra_mono (same_t s6) hA5
      have hpx6 := same_seqT s6 hpx
      have hR6 := rl_same s6 hR5
      generalize upd H5 pe (.lst []) = H6 at s6 e6 el6 hA6 hpx6 hR6
      refine rNeD_nil (SqL.of el6) hA6 (SqL.of e6) ?_
      cases hss : ss with
      | nil =>
        refine ⟨false, by rw [decide_eq_true rfl]; rfl, if_ff (if_ff ?_)⟩
        exact hnx _ _ ⟨px, z, none, rfl, hR6, same_but a s6, hpx6, z0, z1, zz⟩
      | cons s0 ss' =>
        refine ⟨true, by rw [decide_eq_false (List.cons_ne_nil _ _)]; rfl, if_tt ?_⟩
        refine ⟨V.ref a, rfl, a, 3, rfl, hR6, by decide, by decide, fun d H7 d0 d1 hR7 b7 => ?_⟩
        refine ⟨rfl, _, rfl, ?_⟩
        have hpx7 := samet_seqT (but_samet hR6 b7) hpx6
        refine tif (fun _ => ?_) (fun _ => ?_)
        · rw [hss] at hA6 hs
          obtain ⟨u0, vs', rfl, hu0, hA'⟩ : ∃ u0 vs', vs = u0 :: vs' ∧ FrT K H6 u0 s0 ∧ FrA K H6 vs' ss' := by
            cases hA6 with
            | cons h t => exact ⟨_, _, rfl, h, t⟩
          obtain ⟨ps0, zs0⟩ := hs s0 List.mem_cons_self
          have el7 := b7 _ _ el6 nl
          have zi : Qz 4 (1 / s0) := qz_inv zs0 (by grind)
          refine seq_cut (fun σ' H' => ∃ (vn : V), σ' = [some (V.ref a), some v, some (V.ref l), o3, o4, o5, some (V.int m), some (V.ref px), some vn, none, none, none, none, none, none] ∧ Same H7 H' ∧ FrT K H' vn (1 / s0)) (fun nx hnx => ?_) ?_
          · refine ⟨sz_of 2 rfl (by decide), fun p1 hp1 => ?_⟩
            have s8 := same_new (o := (.tup [V.int 1, V.int 1])) hp1
            have e8 : upd H7 p1 (.tup [V.int 1, V.int 1]) p1 = some (.tup [V.int 1, V.int 1]) := upd_same
            generalize upd H7 p1 (.tup [V.int 1, V.int 1]) = H8 at s8 e8
            refine ⟨V.ref l, rfl, l, u0 :: vs', 0, u0, rfl, rfl, SqL.of (s8 _ _ el7), atI_nat (j := 0) rfl, ?_⟩
            refine ⟨V.ref p1, u0, 1, s0, rfl, frt_int 1 (SqT.of e8), hu0.mono ((but_samet hR6 b7).trans (same_t s8)), by grind, qz1 (by decide), zs0.mono (by decide), fun w H9 s9 hw => ?_⟩
            exact hnx _ _ ⟨w, rfl, s8.trans s9, hw⟩
          rintro _ H8 ⟨vn, rfl, s8, hvn⟩
          obtain ⟨bn, rfl, hbn⟩ := hvn
          refine ⟨sz_of 2 rfl (by decide), fun p1 hp1 => ?_⟩
          have s9 := same_new (o := (.tup [V.int 1, V.int 1])) hp1
          have e9 : upd H8 p1 (.tup [V.int 1, V.int 1]) p1 = some (.tup [V.int 1, V.int 1]) := upd_same
          generalize upd H8 p1 (.tup [V.int 1, V.int 1]) = H9 at s9 e9
          refine ⟨V.ref bn, rfl, V.ref p1, V.ref bn, 1, 1 / s0, rfl, frt_int 1 (SqT.of e9), ⟨bn, rfl, same_seqT s9 hbn⟩, qz1 (by decide), zi.mono (by decide), _, rfl, ?_⟩
          have i0 : 0 < 1 / s0 := by
            have := Rat.inv_pos.mpr ps0
            grind
          have bb := but_trans (same_but a s6) (but_trans b7 (same_but a (s8.trans s9)))
          have rr := rl_same (s8.trans s9) hR7
          refine tifn (fun hn => ?_) (fun _ => ?_)
          · exact ⟨V.ref bn, rfl, hnx _ _ ⟨bn, 1 / s0, _, rfl, rr, bb, same_seqT s9 hbn, i0, by grind, zi⟩⟩
          · exact ⟨V.ref px, rfl, hnx _ _ ⟨px, z, _, rfl, rr, bb, same_seqT (s8.trans s9) hpx7, z0, z1, zz⟩⟩
        · exact hnx _ _ ⟨px, z, none, rfl, hR7, but_trans (same_but a s6) b7, hpx7, z0, z1, zz⟩
    rintro _ H6 ⟨px, z, o8, rfl, hR6, b6, hpx, z0, z1, zz⟩
    have b26 := but_trans b25 b6
    clear b25 b6 hR5
    have st26 := but_samet hR2 b26
    have el6 := b26 _ _ el nl
    have hA6 := fra_mono st26 hA
    have hv6 := hv.mono st26
    have htb6 := tab_mono st26 htb2
    have b06 := but_trans b12 b26
    clear el hA hv htb2 hR2 st26 b26 b12
    have hx6 : FrT K H6 (.ref px) z := ⟨px, rfl, hpx⟩
    have y0 : 0 < 1 / z := by
      have := Rat.inv_pos.mpr z0
      grind
    have zi : Qz 4 (1 / z) := qz_inv zz (by grind)
    refine seq_cut (fun σ' H' => ∃ (vb : V), σ' = [some (V.ref a), some v, some (V.ref l), o3, o4, o5, some (V.int m), some (V.ref px), o8, some vb, none, none, none, none, none] ∧ Same H6 H' ∧ FrT K H' vb (1 / z)) (fun nx hnx => ?_) ?_
    · refine ⟨sz_of 2 rfl (by decide), fun p1 hp1 => ?_⟩
      have s7 := same_new (o := (.tup [V.int 1, V.int 1])) hp1
      have e7 : upd H6 p1 (.tup [V.int 1, V.int 1]) p1 = some (.tup [V.int 1, V.int 1]) := upd_same
      generalize upd H6 p1 (.tup [V.int 1, V.int 1]) = H7 at s7 e7
      refine ⟨V.ref px, rfl, V.ref p1, V.ref px, 1, z, rfl, frt_int 1 (SqT.of e7), hx6.mono (same_t s7), by grind, qz1 (by decide), zz.mono (by decide), fun w H8 s8 hw => ?_⟩
      exact hnx _ _ ⟨w, rfl, s7.trans s8, hw⟩
    rintro _ H7 ⟨vb, rfl, s7, hvb⟩
    refine seq_cut (fun σ' H' => ∃ (c : Bool), σ' = [some (V.ref a), some v, some (V.ref l), o3, o4, o5, some (V.int m), some (V.ref px), o8, some vb, some (V.bl c), none, none, none, none] ∧ Same H7 H' ∧ (Good (at0 (strR (1 / z) r)) ↔ c = true)) (fun nx hnx => ?_) ?_
    · have el7 := s7 _ _ el6
      have hA7 := fra_mono (same_t s7) hA6
      have hl := hA7.length
      refine ⟨V.ref l, rfl, l, rfl, ⟨_, SqL.of el7⟩, fun D hD => lc_it (walk_list (K := K) (a := l) (xs := vs)) (fun i G => Same H7 G ∧ ∃ (acc : List V) (fs : List Rat), G D = some (.lst acc) ∧ FrA K G acc fs ∧ acc.length ≤ i ∧ (fs = [] ↔ ∀ j s, j < i → ss[j]? = some s → 1 / z < s)) ⟨same_new hD, [], [], upd_same, .nil, Nat.le_refl _, fun _ j s hj => absurd hj (Nat.not_lt_zero _), fun _ => rfl⟩ (fun i G _ p => p.1.seq (SqL.of el7)) ?_ ?_⟩
      · rintro i u G1 G2 hi ⟨g1, acc, fs, eD, gA, la', hq⟩ ⟨rfl, hu⟩
        obtain ⟨s, hs1, hfr⟩ := hA7.get hu
        obtain ⟨ps, zs⟩ := hs s (List.mem_of_getElem? hs1)
        have hi' : i < ss.length := (List.getElem?_eq_some_iff.mp hs1).1
        refine ⟨rfl, vb, rfl, u, rfl, vb, u, 1 / z, s, rfl, hvb.mono (same_t g1), hfr.mono (same_t g1), zi.mono (by decide), zs.mono (by decide), _, rfl, ?_⟩
        have snoc : (∀ j t, j < i + 1 → ss[j]? = some t → 1 / z < t) ↔ ((∀ j t, j < i → ss[j]? = some t → 1 / z < t) ∧ 1 / z < s) := by
          constructor
          · exact fun h => ⟨fun j t hj => h j t (by omega), h i s (by omega) hs1⟩
          · rintro ⟨h1, h2⟩ j t hj ht
            rcases Nat.lt_or_eq_of_le (Nat.le_of_lt_succ hj) with hj | rfl
            · exact h1 j t hj ht
            · rw [hs1] at ht
              rw [← Option.some.inj ht]
              exact h2
        refine tifn (fun hn => ?_) (fun hy => ?_)
        · refine ⟨u, rfl, acc, eD, by rw [sizeLine_eq]; omega, fun c o e => ?_, acc ++ [u], fs ++ [s], upd_same, (fra_mono (samet_lst eD) gA).append (.cons ((hfr.mono (same_t g1)).mono (samet_lst eD)) .nil), by rw [List.length_append, List.length_singleton]; omega, ?_⟩
          · rw [upd_ne (ne_of_none e hD)]
            exact g1 _ _ e
          · rw [snoc]
            exact ⟨fun h => absurd (List.append_eq_nil_iff.mp h).2 (List.cons_ne_nil _ _), fun h => absurd h.2 hn⟩
        · refine ⟨g1, acc, fs, eD, gA, by omega, ?_⟩
          rw [snoc, hq]
          exact ⟨fun h => ⟨h, hy⟩, fun h => h.1⟩
      rintro G1 ⟨g1, acc, fs, eD, gA, la', hq⟩
      refine ⟨sz_of 0 rfl (by decide), fun pe hpe => ?_⟩
      have g2 := same_new (o := .lst []) hpe
      have e2 : upd G1 pe (.lst []) pe = some (.lst []) := upd_same
      have e3 := g2 _ _ eD
      have gA2 := fra_mono (same_t g2) gA
      generalize upd G1 pe (.lst []) = G2 at g2 e2 e3 gA2
      refine rEqD_nil (SqL.of e3) gA2 (SqL.of e2) ?_
      refine hnx _ _ ⟨_, rfl, g1.trans g2, ?_⟩
      rw [hg _ y0, decide_eq_true_iff, hq]
      constructor
      · exact fun h j s _ hs => h s (List.mem_of_getElem? hs)
      · intro h s hs1
        obtain ⟨j, hj⟩ := List.mem_iff_getElem?.mp hs1
        exact h j s (by have := (List.getElem?_eq_some_iff.mp hj).1; omega) hj
    rintro _ H8 ⟨c, rfl, s8, gc⟩
    have s68 := s7.trans s8
    have hR8 := rl_same s68 hR6
    have b08 := but_trans b06 (same_but a s68)
    have hv8 := hv6.mono (same_t s68)
    have hx8 := hx6.mono (same_t s68)
    have htb8 := tab_mono (same_t s68) htb6
    clear s7 s8 s68 hR6 b06 hv6 hx6 htb6 el6 hA6 hpx hvb
    obtain ⟨zn0, zn1⟩ := share_iff z0 z1
    have iz : 1 / z ≠ 0 := by grind
    have fbz : ∀ (r : List Rat) (c : Bool), Tr r → r ≠ [] → (Good (at0 (strR (1 / z) r)) ↔ c = true) → (fb ((strR (1 / z) r).length - 1) (strR (1 / z) r)).isSome = c := fun r c tr nr g => fb_calm (tr_str iz tr) (str_ne nr) g
    obtain ⟨st, est⟩ : ∃ st, (fb (r.length - 1) r).isSome = st := ⟨_, rfl⟩
    have one1 : strR (1 / 1) r = r := by rw [show (1 : Rat) / 1 = 1 by grind]; exact str_one r
    refine seq_cut (fun σ' H' => ∃ (pt : Addr), σ' = [some (V.ref a), some v, some (V.ref l), o3, o4, o5, some (V.int m), some (V.ref px), o8, some vb, some (V.bl c), some (V.ref pt), none, none, none] ∧ Same H8 H' ∧ H' pt = some (.lst [.bl c, .bl c, .bl st])) (fun nx hnx => ?_) ?_
    · refine ⟨v, rfl, V.ref px, rfl, v, V.ref px, r, z, 31, 40, 6, rfl, hv8, hx8, tr, nr, htb8, zn0, zn1, zz.mono (by decide), cr, lr, by decide, by decide, by decide, fun H9 s9 => ?_⟩
      rw [fbz r c tr nr gc]
      have st9 := same_t s9
      refine ⟨V.ref px, rfl, v, rfl, V.ref px, v, rfl, v, V.ref px, r, z, 31, 40, 6, rfl, hv8.mono st9, hx8.mono st9, tr, nr, tab_mono st9 htb8, zn0, zn1, zz.mono (by decide), cr, lr, by decide, by decide, by decide, fun H10 s10 => ?_⟩
      rw [fbz r c tr nr gc]
      have st10 := st9.trans (same_t s10)
      refine ⟨v, rfl, sz_of 2 rfl (by decide), fun p1 hp1 => ?_⟩
      have s11 := same_new (o := (.tup [V.int 1, V.int 1])) hp1
      have e11 : upd H10 p1 (.tup [V.int 1, V.int 1]) p1 = some (.tup [V.int 1, V.int 1]) := upd_same
      generalize upd H10 p1 (.tup [V.int 1, V.int 1]) = H11 at s11 e11
      have st11 := st10.trans (same_t s11)
      refine ⟨v, V.ref p1, r, 1, 31, 40, 6, rfl, hv8.mono st11, frt_int 1 (SqT.of e11), tr, nr, tab_mono st11 htb8, by decide, by decide, qz1 (by decide), cr, lr, by decide, by decide, by decide, fun H12 s12 => ?_⟩
      rw [one1, est]
      refine ⟨sz_of 3 rfl (by decide), fun p hp => ?_⟩
      exact hnx _ _ ⟨p, rfl, (((s9.trans s10).trans s11).trans s12).trans (same_new hp), upd_same⟩
    rintro _ H9 ⟨pt, rfl, s9, e9⟩
    refine seq_cut (fun σ' H' => σ' = [some (V.ref a), some v, some (V.ref l), o3, o4, o5, some (V.int m), some (V.ref px), o8, some vb, some (V.bl c), some (V.ref pt), none, none, none] ∧ Same H9 H') (fun nx hnx => ?_) ?_
    · have rp : Rp K H9 (V.ref pt) (.list [(.bool c), (.bool c), (.bool st)]) := Rp.lst (SqL.of e9) (RpA.cons (Rp.bl c) (RpA.cons (Rp.bl c) (RpA.cons (Rp.bl st) RpA.nil)))
      have ok : Okd (.list [(.bool c), (.bool c), (.bool st)]) := (((sz_bl c).cons ((sz_bl c).cons ((sz_bl st).cons SzA.nil))).lst).ok (by decide) (by decide)
      refine ⟨V.ref pt, rfl, pt, _, rfl, rp, ok.1, ok.2.1, ok.fits, ?_⟩
      obtain ⟨sx, hx⟩ : ∃ x, PyData.shown (.list [(.bool c), (.bool c), (.bool st)]) = x := ⟨_, rfl⟩
      rw [hx]
      have st9 := same_t s9
      refine ⟨V.bl c, rfl, V.bl c, rfl, v, rfl, v, r, 31, 40, rfl, hv8.mono st9, tr, nr, tab_mono st9 htb8, cr, by decide, by decide, by omega, Nat.le_trans (Nat.mul_le_mul (Nat.le_refl _) (Nat.pow_le_pow_right (by decide) (show r.length - 1 ≤ 6 by omega))) (by decide), fun H10 s10 => ?_⟩
      rw [est]
      refine ⟨sz_of 3 rfl (by decide), fun p2 hp2 => ?_⟩
      have s11 := same_new (o := .lst [.bl c, .bl c, .bl st]) hp2
      have rp2 : Rp K (upd H10 p2 (.lst [.bl c, .bl c, .bl st])) (V.ref p2) (.list [(.bool c), (.bool c), (.bool st)]) := Rp.lst (SqL.of upd_same) (RpA.cons (Rp.bl c) (RpA.cons (Rp.bl c) (RpA.cons (Rp.bl st) RpA.nil)))
      refine ⟨p2, _, rfl, rp2, ok.1, ok.2.1, ok.fits, ?_⟩
      rw [hx]
      refine ⟨rfl, _, rfl, ?_⟩
      refine ne_str_same ?_
      exact hnx _ _ ⟨rfl, s10.trans s11⟩
    rintro _ H10 ⟨rfl, s10⟩
    have s810 := s9.trans s10
    have hR10 := rl_same s810 hR8
    refine seq_cut (fun σ' H' => ∃ (vo : V) (ro : List Rat), σ' = [some (V.ref a), some v, some (V.ref l), o3, o4, o5, some (V.int m), some (V.ref px), o8, some vb, some (V.bl c), some (V.ref pt), some vo, none, none] ∧ RlAt a H' ∧ But a H10 H' ∧ RwT K H' vo ro ∧ Tr ro ∧ Qs 4 ro ∧ ro.length ≤ 5 ∧ at0 ro 0 = 1) (fun nx hnx => ?_) ?_
    · refine ⟨V.ref a, rfl, a, 4, rfl, hR10, by decide, fun y g H11 hR11 b11 hy tg qg lg g1 => ?_⟩
      exact hnx _ _ ⟨y, g, rfl, hR11, b11, hy, tg, qg, lg, g1⟩
    rintro _ H11 ⟨vo, ro, rfl, hR11, b11, hvo, tro, qro, lro, ro1⟩
    have nro : ro ≠ [] := fun e => by
      rw [e] at ro1
      exact absurd ro1 (by decide)
    have b011 := but_trans b08 (but_trans (same_but a s810) b11)
    have st811 := (same_t s810).trans (but_samet hR10 b11)
    have hv11 := hv8.mono st811
    have hx11 := hx8.mono st811
    have htb11 := tab_mono st811 htb8
    clear s9 s10 s810 hR8 hR10 b08 b11 st811 hv8 hx8 htb8 e9
    obtain ⟨c3, ec3⟩ : ∃ c3, (fb ((strR (1 / z) ro).length - 1) (strR (1 / z) ro)).isSome = c3 := ⟨_, rfl⟩
    have gc3 : Good (at0 (strR (1 / z) ro)) ↔ c3 = true := by
      rw [← ec3]
      exact (fb_iff (tr_str iz tro) (str_ne nro)).symm
    have cdo := cd_of_qs4 qro
    have hso0 : at0 (strR (1 / z) ro) 0 = 1 := by
      rw [at0_str, ro1, Rat.pow_zero]
      grind
    refine seq_cut (fun σ' H' => σ' = [some (V.ref a), some v, some (V.ref l), o3, o4, o5, some (V.int m), some (V.ref px), o8, some vb, some (V.bl c), some (V.ref pt), some vo, some (V.bl c3), none] ∧ Same H11 H') (fun nx hnx => ?_) ?_
    · refine ⟨vo, rfl, V.ref px, rfl, vo, V.ref px, ro, z, 4, 4, rfl, hvo, hx11, by grind, qro, zz, by decide, by decide, by omega, by omega, fun w H12 s12 hw => ?_⟩
      have hw' : RwT K H12 w (strR (1 / z) ro) := hw
      have qw : Qs 20 (strR (1 / z) ro) := fun q hq => by
        obtain ⟨i, hi⟩ := List.mem_iff_getElem?.mp hq
        have hi' : i < ro.length := by
          have := (List.getElem?_eq_some_iff.mp hi).1
          rw [str_len] at this
          exact this
        have e1 := at0_some hi
        rw [at0_str] at e1
        rw [← e1]
        by_cases hi0 : i = 0
        · subst hi0
          rw [Rat.pow_zero, show at0 ro 0 * 1 = at0 ro 0 by grind]
          exact (qs_at0 qro (by decide) 0).mono (by decide)
        · refine (Qz.mul (qs_at0 qro (by decide) i) (qz_powb zi i hi0)).mono ?_
          omega
      refine ⟨w, strR (1 / z) ro, 20, rfl, hw', tr_str iz tro, qw, by decide, by decide, by rw [str_len]; omega, fun _ => ⟨?_, by rw [str_len]; omega⟩, fun h => ?_, fun _ hn H13 s13 => ?_, fun _ bs hb w2 H13 s13 hw2 => ?_⟩
      · rw [hso0, show (1 : Rat) / 1 = 1 by grind, smul_one]
        exact qw
      · rw [hso0] at h
        exact absurd h (by decide)
      · rw [hn] at ec3
        subst ec3
        refine ⟨rfl, hnx _ _ ⟨?_, s12.trans s13⟩⟩
        rw [decide_eq_true rfl]
        rfl
      · rw [hb] at ec3
        subst ec3
        obtain ⟨aw, uw, rfl, _, _⟩ := hw2
        refine ⟨rfl, hnx _ _ ⟨?_, s12.trans s13⟩⟩
        rw [decide_eq_false (fun z => by cases z)]
        rfl
    rintro _ H12 ⟨rfl, s12⟩
    have st12 := same_t s12
    have hv12 := hv11.mono st12
    have hx12 := hx11.mono st12
    have hvo12 := hvo.mono st12
    have htb12 := tab_mono st12 htb11
    have hR12 := rl_same s12 hR11
    have b012 := but_trans b011 (same_but a s12)
    clear s12 st12 hv11 hx11 hvo htb11 hR11 b011
    refine seq_cut (fun σ' H' => σ' = [some (V.ref a), some v, some (V.ref l), o3, o4, o5, some (V.int m), some (V.ref px), o8, some vb, some (V.bl c), some (V.ref pt), some vo, some (V.bl c3), none] ∧ Same H12 H') (fun nx hnx => ?_) ?_
    · refine ⟨vo, rfl, V.ref px, rfl, vo, V.ref px, ro, z, 19, 23, 6, rfl, hvo12, hx12, tro, nro, htb12, zn0, zn1, zz.mono (by decide), cdo, by omega, by decide, by decide, by decide, fun H13 s13 => ?_⟩
      rw [ec3]
      have st13 := same_t s13
      refine ⟨vo, rfl, v, rfl, vo, v, ro, r, rfl, hvo12.mono st13, hv12.mono st13, tro, tr, tab_mono st13 htb12, fun H14 s14 => ?_⟩
      have st14 := st13.trans (same_t s14)
      refine ⟨vo, v, ro, r, 24, 41, rfl, hvo12.mono st14, hv12.mono st14, qro.mono (by decide), cd_qs cr (by decide) (by decide), by omega, by omega, by unfold bTimes; omega, fun v5 r5 H15 s15 hv5 tr5 ev5 _ _ => ?_⟩
      have cd5 := cd_prod (k := 3) cdo cr (Nat.le_trans lro (by decide)) tro tr tr5 ev5
      have ln5 := prod_len tro tr tr5 ev5 lro lr
      have ne5 := prod_ne tro tr nro nr tr5 ev5
      have g5 : Good (at0 (strR (1 / z) r5)) ↔ (c3 && c) = true := by
        rw [good_str ev5, gc3, gc, Bool.and_eq_true]
      have st15 := st14.trans (same_t s15)
      refine ⟨V.ref px, rfl, v5, V.ref px, r5, z, 50, 66, 10, rfl, hv5, hx12.mono st15, tr5, ne5, tab_mono st15 htb12, zn0, zn1, zz.mono (by decide), cd_mono cd5 (by decide) (by decide), by omega, by decide, by decide, by decide, fun H16 s16 => ?_⟩
      rw [fbz r5 _ tr5 ne5 g5]
      refine ⟨sz_of 2 rfl (by decide), fun p7 hp7 => ?_⟩
      have s17 := same_new (o := .lst [.bl c3, .bl (c3 && c)]) hp7
      have rp : Rp K (upd H16 p7 (.lst [.bl c3, .bl (c3 && c)])) (V.ref p7) (.list [(.bool c3), (.bool (c3 && c))]) := Rp.lst (SqL.of upd_same) (RpA.cons (Rp.bl c3) (RpA.cons (Rp.bl (c3 && c)) RpA.nil))
      generalize upd H16 p7 (.lst [.bl c3, .bl (c3 && c)]) = H17 at s17 rp
      have ok : Okd (.list [(.bool c3), (.bool (c3 && c))]) := (((sz_bl c3).cons ((sz_bl (c3 && c)).cons SzA.nil)).lst).ok (by decide) (by decide)
      refine ⟨p7, _, rfl, rp, ok.1, ok.2.1, ok.fits, ?_⟩
      obtain ⟨sx, hx⟩ : ∃ x, PyData.shown (.list [(.bool c3), (.bool (c3 && c))]) = x := ⟨_, rfl⟩
      rw [hx]
      refine ⟨V.bl c3, rfl, and_go rfl rfl ?_⟩
      refine ⟨sz_of 2 rfl (by decide), fun p8 hp8 => ?_⟩
      have s18 := same_new (o := .lst [.bl c3, .bl (c3 && c)]) hp8
      refine ⟨p8, _, rfl, Rp.lst (SqL.of upd_same) (RpA.cons (Rp.bl c3) (RpA.cons (Rp.bl (c3 && c)) RpA.nil)), ok.1, ok.2.1, ok.fits, ?_⟩
      rw [hx]
      refine ⟨rfl, _, rfl, ?_⟩
      refine ne_str_same ?_
      exact hnx _ _ ⟨rfl, ((((s13.trans s14).trans s15).trans s16).trans s17).trans s18⟩
    rintro _ H13 ⟨rfl, s13⟩
    have st13 := same_t s13
    have hv13 := hv12.mono st13
    have hx13 := hx12.mono st13
    have htb13 := tab_mono st13 htb12
    have b013 := but_trans b012 (same_but a s13)
    clear s13 st13 hv12 hx12 hvo12 htb12 hR12 b012
    obtain ⟨_, epx, hpx13⟩ := hx13
    cases epx
    have zb := zz.1
    have zb2 := zz.2
    have zdp := z.den_pos
    obtain ⟨zm, ezm⟩ : ∃ zm, zm = Rat.divInt (z.num + (z.den : Int)) (2 * (z.den : Int)) := ⟨_, rfl⟩
    have em : zm = (z + 1) / 2 := by
      rw [ezm, Rat.divInt_eq_div]
      have e1 : z = (z.num : Rat) / ((z.den : Int) : Rat) := by
        rw [← Rat.divInt_eq_div]
        exact (fr_self z).symm
      have h3 : ((z.den : Int) : Rat) ≠ 0 := by exact_mod_cast (show (z.den : Int) ≠ 0 by omega)
      have key : ∀ z n d : Rat, d ≠ 0 → z = n / d → (n + d) / (2 * d) = (z + 1) / 2 := by
        intro z n d a b
        subst b
        grind
      have e2 : ((z.num + (z.den : Int) : Int) : Rat) = (z.num : Rat) + ((z.den : Int) : Rat) := by push_cast; rfl
      have e3 : ((2 * (z.den : Int) : Int) : Rat) = 2 * ((z.den : Int) : Rat) := by push_cast; rfl
      rw [e2, e3]
      exact key _ _ _ h3 e1
    have zm0 : 0 < zm := by grind
    have zm1 : zm ≤ 1 := by grind
    have zmz : z ≤ zm := by grind
    have qzm : Qz 5 zm := by
      rw [ezm]
      exact Qz.of_div (by unfold Bz; omega) (by unfold Bz; omega) (by omega)
    refine seq_cut (fun σ' H' => ∃ (vm : V), σ' = [some (V.ref a), some v, some (V.ref l), o3, o4, o5, some (V.int m), some (V.ref px), o8, some vb, some (V.bl c), some (V.ref pt), some vo, some (V.bl c3), some vm] ∧ Same H13 H' ∧ FrT K H' vm zm) (fun nx hnx => ?_) ?_
    · have h0 : 0 < 2 * (z.den : Int) := by omega
      have hz : Bz 1900000 (2 * (z.den : Int)) := Bz.mono (b := 6) (by unfold Bz; omega) (by decide)
      have cm : CMulX 2 (z.den : Int) := cmuly (a := 5) (b := 5) (by unfold Bz; decide) (by unfold Bz; omega) (by decide)
      walk_at "rd"
      intro w H14 s14 hw
      rw [← ezm] at hw
      exact hnx _ _ ⟨w, rfl, s14, hw⟩
    rintro _ H14 ⟨vm, rfl, s14, hvm⟩
    refine ⟨V.bl c, rfl, c, rfl, ?_⟩
    cases hc : c with
    | false => exact ⟨true, rfl, if_tt (q _ (but_trans b013 (same_but a s14)))⟩
    | true =>
      rw [hc] at gc
      have gm : Good (at0 (strR (1 / zm) r)) := by
        have hall := (hg _ y0).mp (gc.mpr rfl)
        have ym0 : 0 < 1 / zm := by
          have := Rat.inv_pos.mpr zm0
          grind
        refine (hg _ ym0).mpr fun s hs1 => ?_
        have h1 := hall s hs1
        have h2 : 1 / zm ≤ 1 / z := by
          refine Classical.byContradiction fun w => ?_
          have p := Rat.mul_pos z0 zm0
          have h3 := Rat.mul_lt_mul_of_pos_left (show 1 / z < 1 / zm by grind) p
          have e1 : z * zm * (1 / z) = zm := by grind
          have e2 : z * zm * (1 / zm) = z := by grind
          rw [e1, e2] at h3
          grind
        grind
      refine ⟨false, rfl, if_ff ?_⟩
      obtain ⟨zm2, zm3⟩ := share_iff zm0 zm1
      refine ⟨v, rfl, vm, rfl, v, vm, r, zm, 31, 40, 6, rfl, hv13.mono (same_t s14), hvm, tr, nr, tab_mono (same_t s14) htb13, zm2, zm3, qzm, cr, lr, by decide, by decide, by decide, fun H15 s15 => ?_⟩
      have izm : 1 / zm ≠ 0 := by grind
      rw [fb_calm (c := true) (tr_str izm tr) (str_ne nr) ⟨fun _ => rfl, fun _ => gm⟩]
      refine ⟨true, true, rfl, rfl, ?_⟩
      exact q _ (but_trans b013 (same_but a (s14.trans s15)))
end
end Vx
namespace Vx
open PySem PySem.Spec PyProof.Rows L2
local macro_rules | `(tactic| walk_at "cl") => `(tactic| first | assumption | exact Bz.mono (Bz.mul (by assumption) (by assumption)) (by decide) | rfl | omega | exact sz_of 0 rfl (by decide) | exact sz_of 1 rfl (by decide) | exact sz_of 2 rfl (by decide) | exact sz_of 3 rfl (by decide) | exact cmulx (by assumption) (by assumption) (by decide) | exact Bz.mono (Bz.mul (by assumption) (by assumption)) (by decide) | decide)
local macro_rules | `(tactic| walk_at "ex") => `(tactic| ((show Exists _); first | apply @Exists.intro V | apply @Exists.intro Int | apply @Exists.intro Addr | apply @Exists.intro (List V) | apply @Exists.intro Nat | apply @Exists.intro Str | apply @Exists.intro Bool | apply @Exists.intro (Option V) | apply @Exists.intro String | apply @Exists.intro Rat | apply @Exists.intro (List Rat)))
local macro_rules | `(tactic| walk_at "rd") => `(tactic| ((repeat (first | (walk_at "ex") | (apply And.intro; (focus (walk_at "cl"))))); (try dsimp only [])))
local macro_rules | `(tactic| walk_at "r0") => `(tactic| (repeat (first | (walk_at "ex") | (apply And.intro; (focus (walk_at "cl"))))))
section
variable {K : PySem.W.Frag} {h : Heap} {mg : Str → Option Value} {R : Prop}
theorem st_def {x : Str} {st : Stmt} {f : Addr} {oc kV dc pm cd ct : Value} {od an : Option Addr} {sl : Array (Option Value)} (X : K.In h) (G : h.Ns mainGlobals mg)
    (a : PySem.W.nsIn K mainGlobals x = some (some (.ref f)))
    (l : K.lookup f = some ⟨oc, od, .func (PySem.W.fnOf x x (defArgs st) (defBody st) (defScope st) .none kV dc pm an cd ct), sl⟩)
    (c : PySem.W.codeIn K cd x = true) (kk : PySem.W.keepIn K (.ref f) = true) (k : FunIn K mg x st → R) : R := k (funIn X G a l c kk)
theorem tabIn_of {x : Str} {f c P : Addr} {oc oc2 : Value} {od od2 : Option Addr} {sl sl2 : Array (Option Value)} {fd : FuncData} {vs : Array Value}
    (a : PySem.W.nsIn K mainGlobals x = some (some (.ref f))) (l : K.lookup f = some ⟨oc, od, .func fd, sl⟩) (hc : fd.code = .ref c)
    (lc : K.lookup c = some ⟨oc2, od2, .fields vs, sl2⟩) (hv : (vs[11]? : Option Value) = some (.ref P)) : PySem.W.tabIn K x = some (c, P) := by
  unfold PySem.W.tabIn
  rw [a]
  dsimp only []
  rw [l]
  dsimp only []
  rw [hc]
  dsimp only []
  rw [lc]
  dsimp only []
  rw [hv]
theorem st_defC {x : Str} {st : Stmt} {f c P : Addr} {oc kV dc pm ct oc2 : Value} {od od2 an : Option Addr} {sl sl2 : Array (Option Value)} {vs : Array Value} (X : K.In h) (G : h.Ns mainGlobals mg)
    (a : PySem.W.nsIn K mainGlobals x = some (some (.ref f)))
    (l : K.lookup f = some ⟨oc, od, .func (PySem.W.fnOf x x (defArgs st) (defBody st) (defScope st) .none kV dc pm an (.ref c) ct), sl⟩)
    (cc : PySem.W.codeIn K (.ref c) x = true) (kk : PySem.W.keepIn K (.ref f) = true) (lc : K.lookup c = some ⟨oc2, od2, .fields vs, sl2⟩) (hv : (vs[11]? : Option Value) = some (.ref P)) (n : K.lookup P = none)
    (k : FunC K mg x st c P → PySem.W.tabIn K x = some (c, P) → K.lookup P = none → R) : R :=
  k ⟨f, oc, od, kV, dc, pm, an, ct, sl, l, cc, kk, PySem.W.mg_of X G a⟩ (tabIn_of a l rfl lc hv) n
theorem st_non {x : Str} (X : K.In h) (G : h.Ns mainGlobals mg) (a : PySem.W.nsIn K mainGlobals x = some none) (k : mg x = none → R) : R := k (PySem.W.mg_none_of X G a)
theorem st_val {x : Str} {v : Value} (X : K.In h) (G : h.Ns mainGlobals mg) (a : PySem.W.nsIn K mainGlobals x = some (some v)) (k : mg x = some v → R) : R := k (PySem.W.mg_of X G a)
theorem st_fr {x : Str} {aN : Addr} {i j : Int} {t u : Tok} {n : Nat} {dd : Option Addr} {sl : Array (Option Value)} (X : K.In h) (G : h.Ns mainGlobals mg) (a : PySem.W.nsIn K mainGlobals x = some (some (.ref aN)))
    (l : K.lookup aN = some ⟨.type "tuple", dd, .seq #[.int i t, .int j u] n, sl⟩) (k : mg x = some (.ref aN) → (∀ H : Hp, SqT K H aN [.int i, .int j]) → R) : R :=
  k (PySem.W.mg_of X G a) fun H => Or.inr ⟨_, _, n, l, rfl, rfl, by show 2 ≤ sizeLine; decide, .cons ⟨_, rfl⟩ (.cons ⟨_, rfl⟩ .nil)⟩
theorem FnG.imp {P : Program} {w : World} {base : Heap} {k : Nat} {f : Addr} {fd : FuncData} {ps : List Str} {sp sp' : Sp} (F : FnG P w K mg base CX0 k f fd ps sp) (i : ∀ vs H Q E, sp' vs H Q E → sp vs H Q E) : FnG P w K mg base CX0 k f fd ps sp' :=
  ⟨fun vs H Q E h => F.len vs H Q E (i vs H Q E h), fun A o s H ar us vs Q E r g e b v h => F.go A o s H ar us vs Q E r g e b v (i vs H Q E h)⟩
end
section
variable {P : Program} {w : World} {K : PySem.W.Frag} {mg : Str → Option Value} {base : Heap}
/-- law tells True of every script -/
def spLaw (K : PySem.W.Frag) (tb : Addr) : Sp := fun vs H Q _ => ∃ (a : Addr) (ns : List Int), vs = [.ref a] ∧ SqL K H a (ns.map V.int) ∧ ns.length ≤ 63 ∧ H tb = some (tabX tb) ∧ ∀ H', Same H H' → Q (.bl true) H'
theorem sc_law : FnScope ["script", "turn"] ["script"] (defScope s_law) := ⟨rfl, rfl, rfl, by decide +kernel, rfl, by decide +kernel, by decide +kernel⟩
theorem fn_law {tb f : Addr} {fd : FuncData} (F : Fun K "law" "law" s_law f fd) (B : Bls mg) (D_law_reel : Df P w K mg base "_law_reel" 1 ["script", "turn"] (spReel K)) (D_law_right : Dg P w K mg base "_law_right" 39 ["reel"] (spRight tb)) :
    FnG P w K mg base CX0 40 f fd ["script"] (spLaw K tb) := by
  refine gok F sc_law (fun vs H Q E h => ?_) (fun cdv A outer s H vs Q E ng hr h => ?_)
  · obtain ⟨a, ns, rfl, _⟩ := h
    rfl
  · obtain ⟨a, ns, rfl, hS, hl, htb, q⟩ := h
    have nd := sc_law.nd
    refine ⟨_, (pss_one (ps_ret (pe_callB (cr_all rfl) (by rfl) B.n_all (by decide +kernel) (pa_cons (pe_lc (own := [("turn", 1)]) rfl nd (pi_range1 rfl B.n_range (pa_cons (pe_callB (call_max2 rfl) (by rfl) B.n_max (by decide +kernel) (pa_cons pe_int (pa_cons (pe_callB (call_min2 rfl) (by rfl) B.n_min (by decide +kernel) (pa_cons (pe_callB call_len_seq (by rfl) B.n_len (by decide +kernel) (pa_cons (pv 0) pa_nil)) (pa_cons pe_int pa_nil))) pa_nil))) pa_nil)) (blkOk_by (own := [("turn", 1)]) (N := ["script", "turn"]) (sc := defScope s_law) (by decide +kernel)) (fun _ _ _ _ _ => (pg_name (i := 1) nd rfl (Or.inl rfl) (Or.inr rfl))) (fun _ _ _ _ _ => pts_nil) (fun _ _ _ _ _ => (pe_dg D_law_right (hr.mono (by decide)) ng rfl (pa_cons (pe_d D_law_reel (hr.mono (by decide)) rfl (pa_cons (pv 0) (pa_cons (pv 1) pa_nil))) pa_nil)))) pa_nil)))), ?_⟩
    refine ⟨_, rfl, _, _, rfl, Or.inl hS, _, _, rfl, _, _, rfl, ?_⟩
    rw [List.length_map]
    obtain ⟨n, hn, n3⟩ : ∃ n : Nat, (if (if (3 : Int) < (ns.length : Int) then (3 : Int) else (ns.length : Int)) > 1 then (if (3 : Int) < (ns.length : Int) then (3 : Int) else (ns.length : Int)) else 1) = (n : Int) ∧ n ≤ 3 := by
      refine ⟨(if (if (3 : Int) < (ns.length : Int) then (3 : Int) else (ns.length : Int)) > 1 then (if (3 : Int) < (ns.length : Int) then (3 : Int) else (ns.length : Int)) else 1).toNat, ?_, ?_⟩ <;> (split <;> split <;> omega)
    refine ⟨(n : Int), congrArg (fun z => [V.int z]) hn, by omega, by omega, fun D hD => lc_range (n := n) (fun i Hx => Same H Hx ∧ Hx D = some (.lst (List.replicate i (V.bl true)))) ⟨same_new hD, upd_same⟩ ?_ ?_⟩
    · rintro i Hx hi ⟨sx, ex⟩
      refine ⟨rfl, ?_⟩
      unfold tYes
      dsimp only []
      rw [if_pos rfl]
      refine ⟨_, rfl, _, rfl, a, ns, 0 + (i : Int), rfl, sx.seq hS, hl, by omega, by omega, fun p H1 hp hR s1 => ?_⟩
      have hne : D ≠ p := ne_of_none ex hp
      refine ⟨p, rfl, hR, s1 _ _ (sx _ _ htb), fun H2 b2 => ?_⟩
      have e2 : H2 D = some (.lst (List.replicate i (V.bl true))) := b2 _ _ (s1 _ _ ex) hne
      refine ⟨_, e2, ?_, fun b o e => ?_, ?_⟩
      · rw [List.length_replicate, sizeLine_eq]
        omega
      · rw [upd_ne (ne_of_none e hD)]
        exact b2 _ _ (s1 _ _ (sx _ _ e)) (ne_of_none (sx _ _ e) hp)
      · rw [upd_same, List.replicate_succ']
    · rintro Hx ⟨sx, ex⟩
      refine ⟨D, List.replicate n true, rfl, SqL.of (by rw [List.map_replicate]; exact ex), ?_⟩
      rw [show (List.replicate n true).all id = true from by simp]
      exact q Hx sx
def spLawA (K : PySem.W.Frag) : Sp := fun vs H Q E => ∀ c P : Addr, PySem.W.tabIn K "is_row" = some (c, P) → spLaw K P vs H Q E
theorem Dg.up {j k : Nat} {x : Str} {ps : List Str} {sp : Sp} (D : Dg P w K mg base x j ps sp) (h : j ≤ k) : Dg P w K mg base x k ps sp := by
  obtain ⟨f, fd, F, a⟩ := D.ex
  exact ⟨f, fd, ⟨F.len, fun A o s H ar us vs Q E r g e b v hh => F.go A o s H ar us vs Q E (r.mono h) g e b v hh⟩, a⟩
end
theorem walkT {l : PySem.W.OpenLaw} {q : Program} {loose : List Str} {XP : (Str → Option Value) → Heap → Prop} {YP : World → Heap → Prop} {d : DefRec} {K : Params → PySem.W.Frag} (hn : l.most = some 63)
    (hdf : d.params.defaults = []) (him : importsNone q = true) (hrec : ((recsOf q).any fun e => e.name == ("is_row" : Str)) = true) (hY : ∀ (w : World) (h : Heap), YP w h → (K w.params).In h)
    (F : ∀ (w : World) (mg : Str → Option Value) (fa : Addr) (h : Heap), (K w.params).In h → h.Ns mainGlobals mg → mg d.name = some (.ref fa) →
      ∃ (fd : FuncData) (c P : Addr), PySem.W.tabIn (K w.params) "is_row" = some (c, P) ∧ (K w.params).lookup P = none ∧ (∀ (s : Shared) (u : Value), BindsTo s fd ⟨[u], []⟩ [("script", u)]) ∧
        ∀ base : Heap, (K w.params).In base → base.Ns mainGlobals mg → Sys base → GxR.TabB base mg c P → FnG l.prog w (K w.params) mg base CX0 40 fa fd ["script"] (spLaw (K w.params) P)) :
    PySem.W.WalkO q loose XP YP l.row.toRowW d [] (fun f vs => PySem.call f vs) := by
  refine walk_gt (n := 63) (k := 40) (x := "script") (y := "is_row") (sp := fun w => spLawA (K w.params)) (st := .Pass ⟨0, 0, 0, 0⟩) hn (by decide) hdf ⟨rfl, by decide, by decide⟩ him hrec hY fun w mg fa h KX G hm _ => ?_
  obtain ⟨fd, c, P, h1, h2, h3, h4⟩ := F w mg fa h KX G hm
  refine ⟨fd, c, P, h1, h2, h3, fun base a b e t => (h4 base a b e t).imp fun vs H Q E z => z c P h1, fun H a ns hl hP hS c' P' e => ?_⟩
  rw [h1] at e
  cases e
  exact ⟨a, ns, rfl, hS, hl, hP, fun H' s => ⟨rfl, s⟩⟩
section
variable {P : Program} {w : World} {K : PySem.W.Frag} {mg : Str → Option Value}
theorem law_all {fa c tb aNIL aONE : Addr} (hfa : mg "law" = some (.ref fa)) (T : Blt mg) (hNIL : NilC K mg aNIL) (gl : mg "lcm" = some (.builtin "math.lcm")) (hONE : OneC K mg aONE) (hP : P.given.tree = none)
    (WR : FunC K mg "is_row" s_is_row c tb) (htab : PySem.W.tabIn K "is_row" = some (c, tb)) (hPn : K.lookup tb = none)
    (W_is_whole : FunIn K mg "is_whole" s_is_whole) (W_is_fraction : FunIn K mg "is_fraction" s_is_fraction) (W_is_share : FunIn K mg "is_share" s_is_share) (W_ratio : FunIn K mg "ratio" s_ratio) (W_ratio_product : FunIn K mg "ratio_product" s_ratio_product) (W_ratio_over : FunIn K mg "ratio_over" s_ratio_over) (W_without_end : FunIn K mg "without_end" s_without_end) (W_trimmed : FunIn K mg "trimmed" s_trimmed) (W_cleared : FunIn K mg "cleared" s_cleared) (W_row_over : FunIn K mg "row_over" s_row_over) (W_whole_product : FunIn K mg "whole_product" s_whole_product) (W_times : FunIn K mg "times" s_times) (W_stretched : FunIn K mg "stretched" s_stretched) (W_common_factor : FunIn K mg "common_factor" s_common_factor) (W_divided : FunIn K mg "divided" s_divided) (W_is_filled_row : FunIn K mg "is_filled_row" s_is_filled_row) (W_check_row : FunIn K mg "check_row" s_check_row) (W_check_filled_row : FunIn K mg "check_filled_row" s_check_filled_row) (W_row_product : FunIn K mg "row_product" s_row_product) (W_found_bends : FunIn K mg "found_bends" s_found_bends) (W_is_steady : FunIn K mg "is_steady" s_is_steady) (W_is_quick : FunIn K mg "is_quick" s_is_quick) (W__law_reel : FunIn K mg "_law_reel" s__law_reel) (W__law_pull : FunIn K mg "_law_pull" s__law_pull) (W__law_one_of : FunIn K mg "_law_one_of" s__law_one_of) (W__law_lowest : FunIn K mg "_law_lowest" s__law_lowest) (W__law_plus : FunIn K mg "_law_plus" s__law_plus) (W__law_minus : FunIn K mg "_law_minus" s__law_minus) (W__law_times : FunIn K mg "_law_times" s__law_times) (W__law_over : FunIn K mg "_law_over" s__law_over) (W__law_below : FunIn K mg "_law_below" s__law_below) (W__law_part : FunIn K mg "_law_part" s__law_part) (W__law_some : FunIn K mg "_law_some" s__law_some) (W__law_trim : FunIn K mg "_law_trim" s__law_trim) (W__law_scaled : FunIn K mg "_law_scaled" s__law_scaled) (W__law_product : FunIn K mg "_law_product" s__law_product) (W__law_low : FunIn K mg "_law_low" s__law_low) (W__law_bends : FunIn K mg "_law_bends" s__law_bends) (W__law_drawn : FunIn K mg "_law_drawn" s__law_drawn) (W__law_led : FunIn K mg "_law_led" s__law_led) (W__law_factor : FunIn K mg "_law_factor" s__law_factor) (W__law_stretched : FunIn K mg "_law_stretched" s__law_stretched) (W__law_right : FunIn K mg "_law_right" s__law_right) (W_law : FunIn K mg "law" s_law) :
    ∃ (fd : FuncData) (c P' : Addr), PySem.W.tabIn K "is_row" = some (c, P') ∧ K.lookup P' = none ∧ (∀ (s : Shared) (u : Value), BindsTo s fd ⟨[u], []⟩ [("script", u)]) ∧
      ∀ base : Heap, K.In base → base.Ns mainGlobals mg → Sys base → GxR.TabB base mg c P' → FnG P w K mg base CX0 40 fa fd ["script"] (spLaw K P') := by
  obtain ⟨f, fd, F, hm⟩ := W_law
  have e : fa = f := Value.ref.inj (Option.some.inj (hfa.symm.trans hm))
  subst e
  refine ⟨fd, c, tb, htab, hPn, ?_, fun base _ _ sy TB => ?_⟩
  · obtain ⟨oc, od, kV, doc, pm, an, cdv, ct, osl, rfl, _, _⟩ := F.ex
    exact fun s u => .of_eq rfl
  · have Dratio := d_ratio (P := P) (w := w) (base := base) W_ratio T sy hP 
    have Dratio_product := d_ratio_product (P := P) (w := w) (base := base) W_ratio_product Dratio 
    have Dwithout_end := d_without_end (P := P) (w := w) (base := base) W_without_end T 
    have Dtrimmed := d_trimmed (P := P) (w := w) (base := base) W_trimmed T hNIL Dwithout_end 
    have Dcleared := d_cleared (P := P) (w := w) (base := base) W_cleared T gl 
    have Drow_over := d_row_over (P := P) (w := w) (base := base) W_row_over Dratio Dtrimmed 
    have Dwhole_product := d_whole_product (P := P) (w := w) (base := base) W_whole_product T 
    have Dtimes := d_times (P := P) (w := w) (base := base) W_times Dcleared Dwhole_product Drow_over 
    have Dis_fraction := d_is_fraction (P := P) (w := w) (base := base) W_is_fraction W_is_whole T 
    have Dis_row := d_is_row (P := P) (w := w) (base := base) WR W_is_fraction W_is_whole T hNIL TB hPn 
    have Dcheck_row := d_check_row (P := P) (w := w) (base := base) W_check_row Dis_row 
    have Dis_filled_row := d_is_filled_row (P := P) (w := w) (base := base) W_is_filled_row Dis_row 
    have Dcheck_filled_row := d_check_filled_row (P := P) (w := w) (base := base) W_check_filled_row Dis_filled_row 
    have Krow_product := d_row_product (P := P) (w := w) (base := base) W_row_product Dcheck_row Dtimes 
    have D_law_pull := d_pull (P := P) (w := w) (base := base) W__law_pull T.toBls 
    have D_law_reel := d_reel (P := P) (w := w) (base := base) W__law_reel T.toBls 
    have D_law_one_of := d_one_of (P := P) (w := w) (base := base) W__law_one_of T.toBls D_law_pull 
    have D_law_lowest := d__law_lowest (P := P) (w := w) (base := base) W__law_lowest T sy hP 
    have D_law_lowestN := d__law_lowestN (P := P) (w := w) (base := base) W__law_lowest T sy hP 
    have D_law_plus := d__law_plus (P := P) (w := w) (base := base) W__law_plus D_law_lowest 
    have D_law_minus := d__law_minus (P := P) (w := w) (base := base) W__law_minus D_law_lowest 
    have D_law_times := d__law_times (P := P) (w := w) (base := base) W__law_times D_law_lowest 
    have D_law_part := d__law_part (P := P) (w := w) (base := base) W__law_part D_law_pull D_law_lowest 
    have D_law_some := d__law_some (P := P) (w := w) (base := base) W__law_some D_law_part 
    have D_trimL := d__law_trimL (P := P) (w := w) (base := base) W__law_trim T 
    have D_trimT := d__law_trimT (P := P) (w := w) (base := base) W__law_trim T 
    have D_law_scaled := d__law_scaled (P := P) (w := w) (base := base) W__law_scaled D_trimL D_law_times 
    have D_law_product := d__law_product (P := P) (w := w) (base := base) W__law_product T D_trimL D_law_plus D_law_times 
    have D_law_drawn := d__law_drawn (P := P) (w := w) (base := base) W__law_drawn T D_law_pull D_law_part D_law_some 
    have Dratio_over := d_ratio_over (P := P) (w := w) (base := base) W_ratio_over Dratio 
    have Dis_share := d_is_share (P := P) (w := w) (base := base) W_is_share Dis_fraction 
    have Dstretched := d_stretched (P := P) (w := w) (base := base) W_stretched T hONE Dratio_product 
    have DclearedD := d_clearedD (P := P) (w := w) (base := base) W_cleared T gl 
    have Dcommon_factor := d_common_factor (P := P) (w := w) (base := base) W_common_factor T 
    have Ddivided := d_divided (P := P) (w := w) (base := base) W_divided sy hP Dcommon_factor 
    have Dfound_bends := d_found_bends (P := P) (w := w) (base := base) W_found_bends T DclearedD Dratio Ddivided 
    have Kis_steady := d_is_steady (P := P) (w := w) (base := base) W_is_steady Dcheck_filled_row Dfound_bends 
    have D_law_over := d__law_over (P := P) (w := w) (base := base) W__law_over D_law_lowestN 
    have D_law_low := d__law_low (P := P) (w := w) (base := base) W__law_low D_law_scaled D_law_over 
    have D_law_led := d__law_led (P := P) (w := w) (base := base) W__law_led D_law_drawn D_trimT 
    have D_law_bends := d__law_bends (P := P) (w := w) (base := base) W__law_bends T D_law_low D_law_minus D_law_times D_law_over 
    have Kis_quick := d_is_quick (P := P) (w := w) (base := base) W_is_quick hONE Dcheck_filled_row Dis_share Dratio_over Dstretched Dfound_bends 
    have D_law_below := d__law_below (P := P) (w := w) (base := base) W__law_below 
    have D_law_stretched := d__law_stretched (P := P) (w := w) (base := base) W__law_stretched T D_law_over D_law_times 
    have D_law_factor := d__law_factor (P := P) (w := w) (base := base) W__law_factor T D_law_pull D_law_one_of D_law_lowest D_law_times D_law_over 
    have D_law_right := (d__law_right (P := P) (w := w) (base := base) W__law_right T sy D_law_pull D_law_some D_law_factor D_law_product D_law_lowest D_law_over D_law_below D_law_led D_law_bends D_law_stretched Krow_product Kis_quick Kis_steady).up (k := 39) (by decide)
    exact fn_law F T.toBls D_law_reel D_law_right
end
end Vx
open PySem PySem.W PyProof.Rows
set_option Elab.async false
set_option maxRecDepth 100000 in
set_option maxHeartbeats 0 in
theorem PySem.Challenge.cw_allhelms_k08_whole_quick_rows_holds : PySem.Challenge.rw_allhelms_k08_whole_quick_rows.Holds := by
  w_on; o_law; k_head; (case hw => w_witness2)
  k_fill
  refine Vx.walkT (l := PySem.Challenge.rw_allhelms_k08_whole_quick_rows) rfl rfl rfl rfl (fun w h Y => PySem.W.kIn_of Y) ?F
  case F =>
    intro w mg fa h KX G hmg
    refine' Vx.st_def (x := "is_whole") (st := Vx.s_is_whole) KX G ?a_1 ?l_1 ?c_1 ?kk_1 ?k_1
    (case a_1 => k_is); (case l_1 => k_is); (case c_1 => k_is); (case kk_1 => k_is)
    intro W_is_whole
    refine' Vx.st_def (x := "is_fraction") (st := Vx.s_is_fraction) KX G ?a_2 ?l_2 ?c_2 ?kk_2 ?k_2
    (case a_2 => k_is); (case l_2 => k_is); (case c_2 => k_is); (case kk_2 => k_is)
    intro W_is_fraction
    refine' Vx.st_def (x := "is_share") (st := Vx.s_is_share) KX G ?a_3 ?l_3 ?c_3 ?kk_3 ?k_3
    (case a_3 => k_is); (case l_3 => k_is); (case c_3 => k_is); (case kk_3 => k_is)
    intro W_is_share
    refine' Vx.st_def (x := "ratio") (st := Vx.s_ratio) KX G ?a_4 ?l_4 ?c_4 ?kk_4 ?k_4
    (case a_4 => k_is); (case l_4 => k_is); (case c_4 => k_is); (case kk_4 => k_is)
    intro W_ratio
    refine' Vx.st_def (x := "ratio_product") (st := Vx.s_ratio_product) KX G ?a_5 ?l_5 ?c_5 ?kk_5 ?k_5
    (case a_5 => k_is); (case l_5 => k_is); (case c_5 => k_is); (case kk_5 => k_is)
    intro W_ratio_product
    refine' Vx.st_def (x := "ratio_over") (st := Vx.s_ratio_over) KX G ?a_6 ?l_6 ?c_6 ?kk_6 ?k_6
    (case a_6 => k_is); (case l_6 => k_is); (case c_6 => k_is); (case kk_6 => k_is)
    intro W_ratio_over
    refine' Vx.st_def (x := "without_end") (st := Vx.s_without_end) KX G ?a_7 ?l_7 ?c_7 ?kk_7 ?k_7
    (case a_7 => k_is); (case l_7 => k_is); (case c_7 => k_is); (case kk_7 => k_is)
    intro W_without_end
    refine' Vx.st_def (x := "trimmed") (st := Vx.s_trimmed) KX G ?a_8 ?l_8 ?c_8 ?kk_8 ?k_8
    (case a_8 => k_is); (case l_8 => k_is); (case c_8 => k_is); (case kk_8 => k_is)
    intro W_trimmed
    refine' Vx.st_def (x := "cleared") (st := Vx.s_cleared) KX G ?a_9 ?l_9 ?c_9 ?kk_9 ?k_9
    (case a_9 => k_is); (case l_9 => k_is); (case c_9 => k_is); (case kk_9 => k_is)
    intro W_cleared
    refine' Vx.st_def (x := "row_over") (st := Vx.s_row_over) KX G ?a_10 ?l_10 ?c_10 ?kk_10 ?k_10
    (case a_10 => k_is); (case l_10 => k_is); (case c_10 => k_is); (case kk_10 => k_is)
    intro W_row_over
    refine' Vx.st_def (x := "whole_product") (st := Vx.s_whole_product) KX G ?a_11 ?l_11 ?c_11 ?kk_11 ?k_11
    (case a_11 => k_is); (case l_11 => k_is); (case c_11 => k_is); (case kk_11 => k_is)
    intro W_whole_product
    refine' Vx.st_def (x := "times") (st := Vx.s_times) KX G ?a_12 ?l_12 ?c_12 ?kk_12 ?k_12
    (case a_12 => k_is); (case l_12 => k_is); (case c_12 => k_is); (case kk_12 => k_is)
    intro W_times
    refine' Vx.st_def (x := "stretched") (st := Vx.s_stretched) KX G ?a_13 ?l_13 ?c_13 ?kk_13 ?k_13
    (case a_13 => k_is); (case l_13 => k_is); (case c_13 => k_is); (case kk_13 => k_is)
    intro W_stretched
    refine' Vx.st_def (x := "common_factor") (st := Vx.s_common_factor) KX G ?a_14 ?l_14 ?c_14 ?kk_14 ?k_14
    (case a_14 => k_is); (case l_14 => k_is); (case c_14 => k_is); (case kk_14 => k_is)
    intro W_common_factor
    refine' Vx.st_def (x := "divided") (st := Vx.s_divided) KX G ?a_15 ?l_15 ?c_15 ?kk_15 ?k_15
    (case a_15 => k_is); (case l_15 => k_is); (case c_15 => k_is); (case kk_15 => k_is)
    intro W_divided
    refine' Vx.st_def (x := "is_filled_row") (st := Vx.s_is_filled_row) KX G ?a_16 ?l_16 ?c_16 ?kk_16 ?k_16
    (case a_16 => k_is); (case l_16 => k_is); (case c_16 => k_is); (case kk_16 => k_is)
    intro W_is_filled_row
    refine' Vx.st_def (x := "check_row") (st := Vx.s_check_row) KX G ?a_17 ?l_17 ?c_17 ?kk_17 ?k_17
    (case a_17 => k_is); (case l_17 => k_is); (case c_17 => k_is); (case kk_17 => k_is)
    intro W_check_row
    refine' Vx.st_def (x := "check_filled_row") (st := Vx.s_check_filled_row) KX G ?a_18 ?l_18 ?c_18 ?kk_18 ?k_18
    (case a_18 => k_is); (case l_18 => k_is); (case c_18 => k_is); (case kk_18 => k_is)
    intro W_check_filled_row
    refine' Vx.st_def (x := "row_product") (st := Vx.s_row_product) KX G ?a_19 ?l_19 ?c_19 ?kk_19 ?k_19
    (case a_19 => k_is); (case l_19 => k_is); (case c_19 => k_is); (case kk_19 => k_is)
    intro W_row_product
    refine' Vx.st_def (x := "found_bends") (st := Vx.s_found_bends) KX G ?a_20 ?l_20 ?c_20 ?kk_20 ?k_20
    (case a_20 => k_is); (case l_20 => k_is); (case c_20 => k_is); (case kk_20 => k_is)
    intro W_found_bends
    refine' Vx.st_def (x := "is_steady") (st := Vx.s_is_steady) KX G ?a_21 ?l_21 ?c_21 ?kk_21 ?k_21
    (case a_21 => k_is); (case l_21 => k_is); (case c_21 => k_is); (case kk_21 => k_is)
    intro W_is_steady
    refine' Vx.st_def (x := "is_quick") (st := Vx.s_is_quick) KX G ?a_22 ?l_22 ?c_22 ?kk_22 ?k_22
    (case a_22 => k_is); (case l_22 => k_is); (case c_22 => k_is); (case kk_22 => k_is)
    intro W_is_quick
    refine' Vx.st_def (x := "_law_reel") (st := Vx.s__law_reel) KX G ?a_23 ?l_23 ?c_23 ?kk_23 ?k_23
    (case a_23 => k_is); (case l_23 => k_is); (case c_23 => k_is); (case kk_23 => k_is)
    intro W__law_reel
    refine' Vx.st_def (x := "_law_pull") (st := Vx.s__law_pull) KX G ?a_24 ?l_24 ?c_24 ?kk_24 ?k_24
    (case a_24 => k_is); (case l_24 => k_is); (case c_24 => k_is); (case kk_24 => k_is)
    intro W__law_pull
    refine' Vx.st_def (x := "_law_one_of") (st := Vx.s__law_one_of) KX G ?a_25 ?l_25 ?c_25 ?kk_25 ?k_25
    (case a_25 => k_is); (case l_25 => k_is); (case c_25 => k_is); (case kk_25 => k_is)
    intro W__law_one_of
    refine' Vx.st_def (x := "_law_lowest") (st := Vx.s__law_lowest) KX G ?a_26 ?l_26 ?c_26 ?kk_26 ?k_26
    (case a_26 => k_is); (case l_26 => k_is); (case c_26 => k_is); (case kk_26 => k_is)
    intro W__law_lowest
    refine' Vx.st_def (x := "_law_plus") (st := Vx.s__law_plus) KX G ?a_27 ?l_27 ?c_27 ?kk_27 ?k_27
    (case a_27 => k_is); (case l_27 => k_is); (case c_27 => k_is); (case kk_27 => k_is)
    intro W__law_plus
    refine' Vx.st_def (x := "_law_minus") (st := Vx.s__law_minus) KX G ?a_28 ?l_28 ?c_28 ?kk_28 ?k_28
    (case a_28 => k_is); (case l_28 => k_is); (case c_28 => k_is); (case kk_28 => k_is)
    intro W__law_minus
    refine' Vx.st_def (x := "_law_times") (st := Vx.s__law_times) KX G ?a_29 ?l_29 ?c_29 ?kk_29 ?k_29
    (case a_29 => k_is); (case l_29 => k_is); (case c_29 => k_is); (case kk_29 => k_is)
    intro W__law_times
    refine' Vx.st_def (x := "_law_over") (st := Vx.s__law_over) KX G ?a_30 ?l_30 ?c_30 ?kk_30 ?k_30
    (case a_30 => k_is); (case l_30 => k_is); (case c_30 => k_is); (case kk_30 => k_is)
    intro W__law_over
    refine' Vx.st_def (x := "_law_below") (st := Vx.s__law_below) KX G ?a_31 ?l_31 ?c_31 ?kk_31 ?k_31
    (case a_31 => k_is); (case l_31 => k_is); (case c_31 => k_is); (case kk_31 => k_is)
    intro W__law_below
    refine' Vx.st_def (x := "_law_part") (st := Vx.s__law_part) KX G ?a_32 ?l_32 ?c_32 ?kk_32 ?k_32
    (case a_32 => k_is); (case l_32 => k_is); (case c_32 => k_is); (case kk_32 => k_is)
    intro W__law_part
    refine' Vx.st_def (x := "_law_some") (st := Vx.s__law_some) KX G ?a_33 ?l_33 ?c_33 ?kk_33 ?k_33
    (case a_33 => k_is); (case l_33 => k_is); (case c_33 => k_is); (case kk_33 => k_is)
    intro W__law_some
    refine' Vx.st_def (x := "_law_trim") (st := Vx.s__law_trim) KX G ?a_34 ?l_34 ?c_34 ?kk_34 ?k_34
    (case a_34 => k_is); (case l_34 => k_is); (case c_34 => k_is); (case kk_34 => k_is)
    intro W__law_trim
    refine' Vx.st_def (x := "_law_scaled") (st := Vx.s__law_scaled) KX G ?a_35 ?l_35 ?c_35 ?kk_35 ?k_35
    (case a_35 => k_is); (case l_35 => k_is); (case c_35 => k_is); (case kk_35 => k_is)
    intro W__law_scaled
    refine' Vx.st_def (x := "_law_product") (st := Vx.s__law_product) KX G ?a_36 ?l_36 ?c_36 ?kk_36 ?k_36
    (case a_36 => k_is); (case l_36 => k_is); (case c_36 => k_is); (case kk_36 => k_is)
    intro W__law_product
    refine' Vx.st_def (x := "_law_low") (st := Vx.s__law_low) KX G ?a_37 ?l_37 ?c_37 ?kk_37 ?k_37
    (case a_37 => k_is); (case l_37 => k_is); (case c_37 => k_is); (case kk_37 => k_is)
    intro W__law_low
    refine' Vx.st_def (x := "_law_bends") (st := Vx.s__law_bends) KX G ?a_38 ?l_38 ?c_38 ?kk_38 ?k_38
    (case a_38 => k_is); (case l_38 => k_is); (case c_38 => k_is); (case kk_38 => k_is)
    intro W__law_bends
    refine' Vx.st_def (x := "_law_drawn") (st := Vx.s__law_drawn) KX G ?a_39 ?l_39 ?c_39 ?kk_39 ?k_39
    (case a_39 => k_is); (case l_39 => k_is); (case c_39 => k_is); (case kk_39 => k_is)
    intro W__law_drawn
    refine' Vx.st_def (x := "_law_led") (st := Vx.s__law_led) KX G ?a_40 ?l_40 ?c_40 ?kk_40 ?k_40
    (case a_40 => k_is); (case l_40 => k_is); (case c_40 => k_is); (case kk_40 => k_is)
    intro W__law_led
    refine' Vx.st_def (x := "_law_factor") (st := Vx.s__law_factor) KX G ?a_41 ?l_41 ?c_41 ?kk_41 ?k_41
    (case a_41 => k_is); (case l_41 => k_is); (case c_41 => k_is); (case kk_41 => k_is)
    intro W__law_factor
    refine' Vx.st_def (x := "_law_stretched") (st := Vx.s__law_stretched) KX G ?a_42 ?l_42 ?c_42 ?kk_42 ?k_42
    (case a_42 => k_is); (case l_42 => k_is); (case c_42 => k_is); (case kk_42 => k_is)
    intro W__law_stretched
    refine' Vx.st_def (x := "_law_right") (st := Vx.s__law_right) KX G ?a_43 ?l_43 ?c_43 ?kk_43 ?k_43
    (case a_43 => k_is); (case l_43 => k_is); (case c_43 => k_is); (case kk_43 => k_is)
    intro W__law_right
    refine' Vx.st_def (x := "law") (st := Vx.s_law) KX G ?a_44 ?l_44 ?c_44 ?kk_44 ?k_44
    (case a_44 => k_is); (case l_44 => k_is); (case c_44 => k_is); (case kk_44 => k_is)
    intro W_law
    refine' Vx.st_defC (x := "is_row") (st := Vx.s_is_row) KX G ?a_45 ?l_45 ?cc_45 ?kk_45 ?lc_45 ?hv_45 ?n_45 ?k_45
    (case a_45 => k_is); (case l_45 => k_is); (case cc_45 => k_is); (case kk_45 => k_is); (case lc_45 => k_is); (case hv_45 => rfl); (case n_45 => (first | rfl | kernel_rfl))
    intro WR htab hPn
    refine' Vx.st_non (x := "int") KX G ?a_46 ?k_46
    (case a_46 => k_is)
    intro n_int
    refine' Vx.st_non (x := "len") KX G ?a_47 ?k_47
    (case a_47 => k_is)
    intro n_len
    refine' Vx.st_non (x := "abs") KX G ?a_48 ?k_48
    (case a_48 => k_is)
    intro n_abs
    refine' Vx.st_non (x := "divmod") KX G ?a_49 ?k_49
    (case a_49 => k_is)
    intro n_divmod
    refine' Vx.st_non (x := "range") KX G ?a_50 ?k_50
    (case a_50 => k_is)
    intro n_range
    refine' Vx.st_non (x := "min") KX G ?a_51 ?k_51
    (case a_51 => k_is)
    intro n_min
    refine' Vx.st_non (x := "max") KX G ?a_52 ?k_52
    (case a_52 => k_is)
    intro n_max
    refine' Vx.st_non (x := "all") KX G ?a_53 ?k_53
    (case a_53 => k_is)
    intro n_all
    refine' Vx.st_non (x := "repr") KX G ?a_54 ?k_54
    (case a_54 => k_is)
    intro n_repr
    refine' Vx.st_non (x := "isinstance") KX G ?a_55 ?k_55
    (case a_55 => k_is)
    intro n_isinstance
    refine' Vx.st_non (x := "type") KX G ?a_56 ?k_56
    (case a_56 => k_is)
    intro n_type
    refine' Vx.st_non (x := "tuple") KX G ?a_57 ?k_57
    (case a_57 => k_is)
    intro n_tuple
    refine' Vx.st_non (x := "list") KX G ?a_58 ?k_58
    (case a_58 => k_is)
    intro n_list
    refine' Vx.st_non (x := "zip") KX G ?a_59 ?k_59
    (case a_59 => k_is)
    intro n_zip
    refine' Vx.st_non (x := "enumerate") KX G ?a_60 ?k_60
    (case a_60 => k_is)
    intro n_enumerate
    refine' Vx.st_non (x := "reversed") KX G ?a_61 ?k_61
    (case a_61 => k_is)
    intro n_reversed
    refine' Vx.st_val (x := "gcd") (v := .builtin "math.gcd") KX G ?a_62 ?k_62
    (case a_62 => k_is)
    intro g_gcd
    refine' Vx.st_val (x := "lcm") (v := .builtin "math.lcm") KX G ?a_63 ?k_63
    (case a_63 => k_is)
    intro g_lcm
    refine' Vx.st_fr (x := "NIL") (i := 0) (j := 1) KX G ?a_64 ?l_64 ?k_64
    (case a_64 => k_is); (case l_64 => k_is)
    intro g_nil q_nil
    refine' Vx.st_fr (x := "ONE") (i := 1) (j := 1) KX G ?a_65 ?l_65 ?k_65
    (case a_65 => k_is); (case l_65 => k_is)
    intro g_one q_one
    exact Vx.law_all hmg ⟨⟨n_int, n_len, n_abs, n_divmod, n_range, n_min, n_max, n_all, n_repr, n_isinstance⟩, n_type, n_tuple, n_list, n_zip, n_enumerate, n_reversed, g_gcd⟩ ⟨g_nil, q_nil⟩ g_lcm ⟨g_one, fun H => Vx.frt_int 1 (q_one H)⟩ (by rfl) WR htab hPn W_is_whole W_is_fraction W_is_share W_ratio W_ratio_product W_ratio_over W_without_end W_trimmed W_cleared W_row_over W_whole_product W_times W_stretched W_common_factor W_divided W_is_filled_row W_check_row W_check_filled_row W_row_product W_found_bends W_is_steady W_is_quick W__law_reel W__law_pull W__law_one_of W__law_lowest W__law_plus W__law_minus W__law_times W__law_over W__law_below W__law_part W__law_some W__law_trim W__law_scaled W__law_product W__law_low W__law_bends W__law_drawn W__law_led W__law_factor W__law_stretched W__law_right W_law
