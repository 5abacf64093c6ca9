import PyProof.Rows.All
import Wide.All
import OpenK.AllK
import Wide.FinOn
import HandS.ForMost
import HandS.ExcInit
import HandS.WideBits
import HandS.Wide
import HandS.CallSlots
import HandS.FStrTup
import HandS.ExcIs
import HandS.ExcField
import HandS.ExcValue
import KE.KIsAll
import KE.KTryMore
import HandS.AnyAll
import HandS.EndTab
import HandS.Gcd
import HandS.More
import HandS.Zip
import HandS.Rev
import HandS.TupMul
import HandS.TupAny
import HandS.Walk
import HandS.MakeKwOnly
import HandS.Style
import HandS.RevRange
import HandS.Conv
import HandS.IsInst
import PySem.Challenge.RW_allhelms_k03_whole_quotients_and_rests
set_option Elab.async false
set_option linter.all false
set_option maxRecDepth 100000
set_option maxHeartbeats 4000000
namespace Vx
open PySem PySem.Spec PyProof.Rows L2

/-- no repr is under way -/
abbrev Ng (A : Around) : Prop := A.guards = some []

/-- a promise that is kept where no repr is under way -/
structure FnG (P : Program) (w : World) (K : PySem.W.Frag) (mg : Str → Option Value) (base : Heap) (Z : CXT) (k : Nat)
    (f : Addr) (fd : FuncData) (ps : List Str) (sp : Sp) : Prop where
  len : ∀ vs H Q E, sp vs H Q E → vs.length = ps.length
  go : ∀ (A : Around) (out : List Env) (s : Shared) (H : Hp) (ar : Args) (us : List Value) (vs : List V) (Q : VK) (E : XK),
    Room k A → Ng A → Env0 P w K mg base A out s H → BindsTo s fd ar (ps.zip us) → Vals vs us → sp vs H Q E →
      codeAny (model P w) A (.call (.ref f) ar) (CR Z out P w H s Q E) s

section
variable {P : Program} {w : World} {K : PySem.W.Frag} {mg : Str → Option Value} {base : Heap} {Z : CXT} {k : Nat} {f : Addr}
theorem FnG.of {fd : FuncData} {ps : List Str} {sp : Sp} (F : FnOk P w K mg base Z k f fd ps sp) : FnG P w K mg base Z k f fd ps sp :=
  ⟨F.len, fun A o s H ar us vs Q E r _ e b v h => F.run A o s H ar us vs Q E r e b v h⟩

theorem gfn {nm qn : Str} {pr : Arguments} {body : List Stmt} {sc : Scope} {dV kV doc pm cv ct oc : Value} {an od : Option Addr}
    {osl : Array (Option Value)} {N ps : List Str} {sp : Sp}
    (lk : K.lookup f = some ⟨oc, od, .func (PySem.W.fnOf nm qn pr body sc dV kV doc pm an cv ct), osl⟩)
    (hc : PySem.W.codeIn K cv qn = true) (S : FnScope N ps sc) (len : ∀ vs H Q E, sp vs H Q E → vs.length = ps.length)
    (hb : ∀ (A : Around) (out : List Env) (s : Shared) (H : Hp) (vs : List V) (Q : VK) (E : XK), Ng A →
      Room k (A.deeper (envOfC qn sc s.heap.objs.size f cv)) → sp vs H Q E →
      ∃ t, PSs (cxOf Z P w K mg base N qn sc f cv A out s H E) body t ∧
        t { nx := fun _ H' => Q .non H', rt := Q } (start N vs) H) :
    FnG P w K mg base Z (k + 1) f (PySem.W.fnOf nm qn pr body sc dV kV doc pm an cv ct) ps sp := by
  refine ⟨len, ?_⟩
  intro A out s H ar us vs Q E hr hg e0 hbd r hsp
  have L := len _ _ _ _ hsp
  have KX : K.In s.heap := e0.mod.kin.keeps (fun b o e => (e0.bs b o e).1)
  have lim : s.heap.NoLimit := e0.mod.nolimit.keeps (fun b o e => (e0.bs b o e).1)
  have kd : ∀ y ∈ ps.zip us, sc.names.lookup y.1 = some .local ∨
      (sc.names.lookup y.1 = some .cell ∧ ((cellsFrom (s.heap.objs.size + 1) sc.names []).lookup y.1).isSome = true) := by
    rintro ⟨n, v⟩ hy
    rcases S.par n (List.of_mem_zip hy).1 with q | q
    · exact Or.inl q
    · exact Or.inr ⟨q, PySem.W.cellsFrom_some _ _ _ (Or.inl q)⟩
  refine codeAny_call_function hr.depth (KX _ _ lk) rfl S.co S.gen rfl (PySem.W.codeRec_of KX hc) (hbd _ _ _ _ ?_)
  refine wpAny_newFunctionEnv_cells S.kind kd ?_
  intro env he s1 x
  subst he
  refine ⟨lim.keeps x.toInCall.keep, codeAny_func ?_⟩
  obtain ⟨t, ht, hq⟩ := hb A out s H vs Q E hg (hr.deeper _) hsp
  have I := inv_start (CX := Z) (E := E) S hr.hd e0 L r x
  refine wpAny_mono (ht.run [] s1 (start N vs) H _ I hq) ?_ (fun _ _ z => z)
  intro fl s' hs
  cases fl with
  | ret u =>
    obtain ⟨v, σ', H', J, rv, q⟩ := hs
    exact ⟨v, H', J.os, J.bare, J.base, J.hok, rv, q⟩
  | next =>
    obtain ⟨σ', H', J, q⟩ := hs
    exact ⟨V.non, H', J.os, J.bare, J.base, J.hok, rfl, q⟩
  | brk =>
    obtain ⟨_, _, _, q⟩ := hs
    exact q.elim
  | cont =>
    obtain ⟨_, _, _, q⟩ := hs
    exact q.elim

/-- a def from which no exception leaves -/
theorem gok {x qn : Str} {st : Stmt} {fd : FuncData} {N ps : List Str} {sp : Sp} (F : Fun K x qn st f fd) (S : FnScope N ps (defScope st))
    (len : ∀ vs H Q E, sp vs H Q E → vs.length = ps.length)
    (hb : ∀ (cv : Value) (A : Around) (out : List Env) (s : Shared) (H : Hp) (vs : List V) (Q : VK) (E : XK), Ng A →
      Room k (A.deeper (envOfC qn (defScope st) s.heap.objs.size f cv)) → sp vs H Q E →
      ∃ t, PSs (cxOf CX0 P w K mg base N qn (defScope st) f cv A out s H E).nox (defBody st) t ∧
        t { nx := fun _ H' => Q .non H', rt := Q } (start N vs) H) : FnG P w K mg base CX0 (k + 1) f fd ps sp := by
  obtain ⟨oc, od, kV, doc, pm, an, cv, ct, osl, rfl, lk, hc⟩ := F.ex
  refine gfn lk hc S len ?_
  intro A out s H vs Q E hg hr hsp
  obtain ⟨t, h, q⟩ := hb cv A out s H vs Q E hg hr hsp
  exact ⟨t, h.nox, q⟩
end

section
variable {X : Cx} {Z : CXT} {k : Nat} {f : Addr} {fd : FuncData} {ps : List Str} {sp : Sp} {dvs : List V} {ds : List Value}
  {E : XK} {x : Str} {p pos : Pos} {e : Expr} {es : List Expr} {t : TA}
/-- f(e, ..) of such a def -/
theorem pe_g (F : FnG X.prog X.w X.K X.mg X.base Z k f fd ps sp) (hr : Room k X.A) (ng : Ng X.A) (hg : Gl X x) (hm : X.mg x = some (.ref f))
    (hk : PySem.W.keepIn X.K (.ref f) = true) (hb : Binds X.K fd ps ds) (hd : Vals dvs ds) (hx : Passes Z X E) (ha : PA X (e :: es) t)
    (hdb : (x == ("__debug__" : Str)) = false := by decide)
    (he : starEach (e :: es) X.env = (false, eval e X.env) :: starEach es X.env := by rfl)
    (hpl : (backTo pos (starEach es X.env)).any (·.1) = false := by rfl) :
    PE X (.Call (.Name x p) (e :: es) [] pos) (tCall sp dvs E t) := by
  refine ⟨fun pins s σ H Q I h => ?_⟩
  refine wpAny_Call_Name_kw (ld_glob I hg hm ?_ hdb)
  refine PySem.W.callWith_K (h₀ := X.base) I.ok.mod.kin hk (thn (ha.run pos pins s σ H _ I h) ?_) he hpl
  rintro us s1 ⟨vs, H1, I1, r, q⟩
  refine ⟨I1.kIn, ?_⟩
  have r2 : Vals (vs ++ dvs) (us ++ ds) := r.append hd
  have L : (us ++ ds).length = ps.length := r2.length.symm.trans (F.len _ _ _ _ q)
  refine wpAny_call (codeAny_mono (F.go X.A X.stack s1 H1 ⟨us, []⟩ (us ++ ds) (vs ++ dvs) Q E hr ng I1.env0 (hb s1 us I1.kIn L) r2 q) ?_)
  intro r s' hq
  cases r with
  | error e => exact hx pins σ H1 s1 e s' I1 hq
  | ok fl =>
    cases fl with
    | ret u => exact I1.after hq
    | next => exact hq.elim
    | brk => exact hq.elim
    | cont => exact hq.elim
end

/-! what an abstract heap shows -/
mutual
/-- v is the data d -/
inductive Rp (K : PySem.W.Frag) (H : Hp) : V → PyData → Prop
  | non : Rp K H .non .none
  | bl (b : Bool) : Rp K H (.bl b) (.bool b)
  | int (i : Int) : Rp K H (.int i) (.int i)
  | str (x : Str) : Rp K H (.str x) (.str x)
  | lst {a : Addr} {xs : List V} {ds : List PyData} : SqL K H a xs → RpA K H xs ds → Rp K H (.ref a) (.list ds)
  | tup {a : Addr} {xs : List V} {ds : List PyData} : SqT K H a xs → RpA K H xs ds → Rp K H (.ref a) (.tuple ds)
  | dic {a : Addr} {kvs : List (Key × V)} {ds : List PyData} : H a = some (.dK kvs) → RpA K H (kvs.map (·.2)) ds →
      Rp K H (.ref a) (.dict ((kvs.map fun p => match p.1 with | .inl i => PyData.int i | .inr x => PyData.str x).zip ds))
inductive RpA (K : PySem.W.Frag) (H : Hp) : List V → List PyData → Prop
  | nil : RpA K H [] []
  | cons {v : V} {vs : List V} {d : PyData} {ds : List PyData} : Rp K H v d → RpA K H vs ds → RpA K H (v :: vs) (d :: ds)
end

theorem RpA.length {K : PySem.W.Frag} {H : Hp} : ∀ {vs : List V} {ds : List PyData}, RpA K H vs ds → vs.length = ds.length
  | _, _, .nil => rfl
  | _, _, .cons _ t => by rw [List.length_cons, List.length_cons, RpA.length t]

/-- tracked things stay -/
theorem same_seqT {K : PySem.W.Frag} {H H' : Hp} {a : Addr} {xs : List V} (e : Same H H') (h : SqT K H a xs) : SqT K H' a xs := by
  rcases h with (h | ⟨o, h⟩) | h
  · exact Or.inl (Or.inl (e _ _ h))
  · exact Or.inl (Or.inr ⟨o, e _ _ h⟩)
  · exact Or.inr h
mutual
theorem Rp.mono {K : PySem.W.Frag} {H H' : Hp} (e : Same H H') : ∀ {v : V} {d : PyData}, Rp K H v d → Rp K H' v d
  | _, _, .non => .non
  | _, _, .bl b => .bl b
  | _, _, .int i => .int i
  | _, _, .str x => .str x
  | _, _, .lst h r => .lst (e.seq h) (RpA.mono e r)
  | _, _, .tup h r => .tup (same_seqT e h) (RpA.mono e r)
  | _, _, .dic h r => .dic (e _ _ h) (RpA.mono e r)
theorem RpA.mono {K : PySem.W.Frag} {H H' : Hp} (e : Same H H') : ∀ {vs : List V} {ds : List PyData}, RpA K H vs ds → RpA K H' vs ds
  | _, _, .nil => .nil
  | _, _, .cons a t => .cons (Rp.mono e a) (RpA.mono e t)
end

/-- sys.modules stands in the heap as a dict -/
def Sys (h : Heap) : Prop := (∃ o es n, h.get? sysModules = some o ∧ o.data = .dict es n) ∧ h.NoLimit ∧ h.NoSeer

theorem pairs_keys {P : Program} {w : World} {h : Heap} : ∀ {es : List DictEntry} {kvs : List (Key × Value)}, Pairs (mixKind P w) es kvs →
    ReadsAll h (es.map (·.key)) (kvs.map fun p => match p.1 with | .inl i => PyData.int i | .inr x => PyData.str x) []
  | _, _, .nil => .nil
  | _, _, .cons (e := e) (kv := kv) hk _ t => by
    have r := pairs_keys (h := h) t
    rw [List.map_cons, List.map_cons]
    obtain ⟨k, v⟩ := kv
    have hk' : keyIs k e.key = true := hk
    rcases keyIs_shape hk' with ⟨i, t, rfl, e2⟩ | ⟨x, t, rfl, e2⟩
    · rw [e2]; exact ReadsAll.cons (as := []) (.int i t) r
    · rw [e2]; exact ReadsAll.cons (as := []) (.str x t) r
theorem pairs_vals {P : Program} {w : World} : ∀ {es : List DictEntry} {kvs : List (Key × Value)}, Pairs (mixKind P w) es kvs → es.map (·.val) = kvs.map (·.2)
  | _, _, .nil => rfl
  | _, _, .cons _ hv t => by rw [List.map_cons, List.map_cons, pairs_vals t, hv]
theorem kv_fst : ∀ {kvs : List (Key × V)} {vs : List (Key × Value)}, KV kvs vs → kvs.map (·.1) = vs.map (·.1)
  | _, _, .nil => rfl
  | _, _, .cons h t => by rw [List.map_cons, List.map_cons, kv_fst t, h.1]
theorem kv_snd : ∀ {kvs : List (Key × V)} {vs : List (Key × Value)}, KV kvs vs → Vals (kvs.map (·.2)) (vs.map (·.2))
  | _, _, .nil => .nil
  | _, _, .cons h t => .cons h.2 (kv_snd t)

section
variable {X : Cx} {pins : List (Addr × Obj)} {σ : L2.St} {H : Hp} {s : Shared}
theorem Inv.sys_ne (I : Inv X pins σ H s) (S : Sys X.base) {a : Addr} {o : HO} (h : H a = some o) : a ≠ sysModules := fun z => by
  obtain ⟨⟨ob, _, _, hb, _⟩, _⟩ := S
  have q := (I.bs _ _ hb).2
  rw [z] at h
  rw [h] at q
  cases q
theorem Inv.sys_seq (I : Inv X pins σ H s) (S : Sys X.base) {a : Addr} {o : Obj} {vs : Array Value} {n : Nat} (h : s.heap.get? a = some o) (d : o.data = .seq vs n) : a ≠ sysModules := fun z => by
  obtain ⟨⟨ob, es, m, hb, hd⟩, _⟩ := S
  have q := (I.bs _ _ hb).1
  rw [z, q] at h
  cases h
  rw [hd] at d
  cases d
mutual
theorem Rp.reads (I : Inv X pins σ H s) (S : Sys X.base) : ∀ {v : V} {d : PyData} {u : Value}, Rp X.K H v d → RelV v u →
    ∃ as, Reads s.heap u d as ∧ sysModules ∉ as
  | _, _, _, .non, r => ⟨[], by cases r; exact .none, List.not_mem_nil⟩
  | _, _, _, .bl b, r => ⟨[], by cases r; exact .bool b, List.not_mem_nil⟩
  | _, _, _, .int i, r => ⟨[], by obtain ⟨t, rfl⟩ := r; exact .int i t, List.not_mem_nil⟩
  | _, _, _, .str x, r => ⟨[], by obtain ⟨t, rfl⟩ := r; exact .str x t, List.not_mem_nil⟩
  | _, _, _, .lst (a := a) h q, r => by
    cases r
    obtain ⟨its, rv, ⟨o, n, ho, hc, _, hd⟩, _⟩ := I.list h
    obtain ⟨as, ra, na⟩ := RpA.reads I S q rv
    refine ⟨a :: as, .list ho hc hd (by simpa using ra), fun z => ?_⟩
    rcases List.mem_cons.mp z with z | z
    · exact Inv.sys_seq I S ho hd z.symm
    · exact na z
  | _, _, _, .tup (a := a) h q, r => by
    cases r
    obtain ⟨its, rv, ⟨o, ho, hc, n, hd⟩, _⟩ := I.tuple h
    obtain ⟨as, ra, na⟩ := RpA.reads I S q rv
    exact ⟨as, .tuple ho hc hd (by simpa using ra), na⟩
  | _, _, _, .dic (a := a) (kvs := kvs) (ds := ds) h q, r => by
    cases r
    obtain ⟨hl, hn, vs, kv, o, es, ep, ho, hx, hd, _, hp, _⟩ := I.hok a _ h
    obtain ⟨as, ra, na⟩ := RpA.reads I S q (kv_snd kv)
    have hlen : (kvs.map fun p => match p.1 with | .inl i => PyData.int i | .inr x => PyData.str x).length = ds.length := by
      rw [List.length_map, ← RpA.length q, List.length_map]
    have ek : (kvs.map fun p => match p.1 with | .inl i => PyData.int i | .inr x => PyData.str x) = (vs.map fun p => match p.1 with | .inl i => PyData.int i | .inr x => PyData.str x) := by
      have := congrArg (List.map fun k : Key => match k with | .inl i => PyData.int i | .inr x => PyData.str x) (kv_fst kv)
      simpa [List.map_map, Function.comp_def] using this
    refine ⟨a :: [] ++ as, .dict (n := ep) (es := es) ho hx.1 hd ?_ ?_, fun z => ?_⟩
    · rw [List.map_fst_zip (by rw [hlen]; exact Nat.le_refl _), ek]
      exact pairs_keys hp
    · rw [List.map_snd_zip (by rw [hlen]; exact Nat.le_refl _), pairs_vals hp]
      exact ra
    · rcases List.mem_cons.mp z with z | z
      · rw [← z] at hn
        exact absurd hn (by decide)
      · exact na z
theorem RpA.reads (I : Inv X pins σ H s) (S : Sys X.base) : ∀ {vs : List V} {ds : List PyData} {us : List Value}, RpA X.K H vs ds → Vals vs us →
    ∃ as, ReadsAll s.heap us ds as ∧ sysModules ∉ as
  | _, _, _, .nil, r => by cases r; exact ⟨[], .nil, List.not_mem_nil⟩
  | _, _, _, .cons h t, r => by
    cases r with
    | cons r1 r2 =>
      obtain ⟨a1, q1, n1⟩ := Rp.reads I S h r1
      obtain ⟨a2, q2, n2⟩ := RpA.reads I S t r2
      exact ⟨a1 ++ a2, .cons q1 q2, fun z => (List.mem_append.mp z).elim n1 n2⟩
end
/-- repr of a list, a tuple, a dict -/
theorem call_repr (S : Sys X.base) (ng : Ng X.A) (hu : X.A.units + 64 < cLine) : CallR X (.builtin "repr") (fun xs H Q => ∃ a d, xs = [.ref a] ∧ Rp X.K H (.ref a) d ∧
    d.showable = true ∧ d.depth < 60 ∧ d.shown.length ≤ sizeLine ∧ Q (.str d.shown) H) := by
  intro pins s σ H xs us Q I r h
  obtain ⟨a, d, rfl, hr, hs, hd, hz, q⟩ := h
  obtain ⟨u, rfl, ru⟩ := vals1 r
  cases ru
  obtain ⟨as, ra, na⟩ := Rp.reads I S hr (show RelV (V.ref a) (Value.ref a) from rfl)
  refine repr_of_reads' ra hs (fun _ => na) ng (by omega) (fun _ _ z => z) (fun h' u tk hk => ?_) hz
  exact ⟨.str _, H, I.kept hk, ⟨_, rfl⟩, q⟩
end
end Vx
namespace Vx
open PySem PySem.Spec PyProof.Rows L2

theorem sys_of {h : Heap} (n : h.NoSeer) (l : h.NoLimit) : Sys h := by
  obtain ⟨mm, ⟨o, es, ep, ho, hd, _⟩, _⟩ := n.mods
  exact ⟨⟨o, es, ep, ho, hd⟩, l, n⟩
theorem noseer_hid {h h' : Heap} (n : h.NoSeer) (nsB : ∀ {b : Addr} {m : Str → Option Value}, h.Ns b m → h'.Ns b m) (md : ∀ b o, h.get? b = some o → o.cls = .type "module" → h'.get? b = some o) : h'.NoSeer where
  statics := let ⟨mc, a, b⟩ := n.statics; ⟨mc, nsB a, b⟩
  mods := let ⟨mc, a, b⟩ := n.mods; ⟨mc, nsB a, b⟩
  imp := let ⟨mc, a, b⟩ := n.imp; ⟨mc, nsB a, b⟩
  main := let ⟨mg, bm, ob, a, b, c, d, e⟩ := n.main; ⟨mg, bm, ob, nsB a, b, md _ _ c d, d, e⟩

/-- from any abstract heap that holds the script alone -/
theorem call_end {P : Program} {w : World} {K : PySem.W.Frag} {mg mb : Str → Option Value} {k : Nat} {fa a : Addr} {fd : FuncData} {x : Str} {sp : Sp}
    {s₁ : Shared} {vs : List Value} {xs : List V} {H : Hp} (KX : K.In s₁.heap) (hns : s₁.heap.Ns mainGlobals mg) (hb : s₁.heap.Ns builtinsNs mb)
    (hbb : ∀ x : Str, x ≠ "__name__" → mb x = bootBuiltins x) (lim : s₁.heap.NoLimit) (sy : Sys s₁.heap) (hg : s₁.gens = #[])
    (ha : s₁.heap.get? a = some { cls := .type "list", data := .seq vs.toArray }) (hr : Room k callerA)
    (F : ∀ base : Heap, K.In base → base.Ns mainGlobals mg → Sys base → FnG P w K mg base CX0 k fa fd [x] sp)
    (hbind : ∀ (s : Shared) (u : Value), BindsTo s fd ⟨[u], []⟩ [(x, u)])
    (hsp : sp [.ref a] H (fun v _ => v = .bl true) fun _ _ _ => False) (hO : Only H) (ok : HOk P w H s₁.heap)
    (only : ∀ b, H b ≠ none → b = a) (hK : H a ≠ none → K.lookup a = none) :
    codeAny (model P w) callerA (.call (.ref fa) ⟨[.ref a], []⟩)
      (fun r s' => r = .ok (.ret (.bool true)) ∧ OldK s₁.heap s'.heap ∧ s'.os = s₁.os ∧ AllBare s'.gens) s₁ := by
  have nd : ∀ {b : Addr} {o : Obj} {es : Array DictEntry} {ep : Nat}, s₁.heap.get? b = some o → o.data = .dict es ep → H b = none := by
    intro b o es ep e d
    cases q : H b with
    | none => rfl
    | some u =>
      have z := only b (by rw [q]; exact fun z => nomatch z)
      rw [z, ha] at e
      cases e
      cases (show Data.seq vs.toArray _ = Data.dict es ep from d)
  have nsB : ∀ {b : Addr} {m : Str → Option Value}, s₁.heap.Ns b m → (hidT s₁.heap H).Ns b m := by
    rintro b m ⟨o, es, ep, e, d, r⟩
    exact ⟨o, es, ep, hidT_get e (nd e d), d, r⟩
  have kB : K.In (hidT s₁.heap H) := by
    intro b o e
    refine hidT_get (KX b o e) ?_
    cases q : H b with
    | none => rfl
    | some u =>
      have z := only b (by rw [q]; exact fun z => nomatch z)
      rw [z] at q e
      rw [hK (by rw [q]; exact fun z => nomatch z)] at e
      cases e
  have sB : Sys (hidT s₁.heap H) := by
    obtain ⟨⟨o, es, n, e, d⟩, ⟨mc, h1, h2⟩, sn⟩ := sy
    refine ⟨⟨o, es, n, hidT_get e (nd e d), d⟩, ⟨mc, nsB h1, h2⟩, noseer_hid sn nsB fun b o e2 hc => hidT_get e2 ?_⟩
    cases q : H b with
    | none => rfl
    | some u =>
      have z := only b (by rw [q]; exact fun z => nomatch z)
      rw [z, ha] at e2
      cases e2
      exact absurd (Value.type.inj hc) (by decide)
  have md : Mod K mg (hidT s₁.heap H) := ⟨kB, nsB hns, ⟨mb, nsB hb, hbb⟩, let ⟨mc, h1, h2⟩ := lim; ⟨mc, nsB h1, h2⟩⟩
  have e0 : Env0 P w K mg (hidT s₁.heap H) callerA [] s₁ H :=
    ⟨rfl, md, fun b o e => of_hidT e, Nat.le_of_eq (hidT_size _ _), trivial, fun b z => absurd z List.not_mem_nil, ok, .of_eq hg⟩
  refine codeAny_mono ((F _ kB (nsB hns) sB).go callerA [] s₁ H ⟨[.ref a], []⟩ [.ref a] [.ref a] _ _ hr rfl e0 (hbind s₁ (.ref a)) (.cons rfl .nil) hsp) ?_
  intro r s' h
  cases r with
  | error e => exact h.elim
  | ok fl =>
    cases fl with
    | next => exact h.elim
    | brk => exact h.elim
    | cont => exact h.elim
    | ret u =>
      obtain ⟨v, H', os, bare, un, ok', r', q⟩ := h
      have q' : v = .bl true := q
      subst q'
      obtain rfl : u = Value.bool true := r'
      refine ⟨rfl, OldK.of_keep fun b o e => ?_, os, bare⟩
      rcases hO b with z | ⟨ob, ys, z⟩
      · exact un.keep b o e z List.not_mem_nil List.not_mem_nil
      · obtain ⟨e1, _⟩ := ok b _ z
        obtain ⟨e2, _⟩ := ok' b _ (un.frzs b ob _ z)
        rw [e] at e1
        cases e1
        exact e2

theorem law_end {P : Program} {w : World} {K : PySem.W.Frag} {mg mb : Str → Option Value} {k : Nat} {fa a : Addr} {fd : FuncData} {x : Str} {sp : Sp}
    {s₁ : Shared} {vs : List Value} {ns : List Int} (KX : K.In s₁.heap) (hns : s₁.heap.Ns mainGlobals mg) (hb : s₁.heap.Ns builtinsNs mb)
    (hbb : ∀ x : Str, x ≠ "__name__" → mb x = bootBuiltins x) (lim : s₁.heap.NoLimit) (sy : Sys s₁.heap) (hg : s₁.gens = #[])
    (ha : s₁.heap.get? a = some { cls := .type "list", data := .seq vs.toArray }) (hi : IntsAre vs ns) (hl : ns.length ≤ sizeLine) (hr : Room k callerA)
    (F : ∀ base : Heap, K.In base → base.Ns mainGlobals mg → Sys base → FnG P w K mg base CX0 k fa fd [x] sp)
    (hbind : ∀ (s : Shared) (u : Value), BindsTo s fd ⟨[u], []⟩ [(x, u)])
    (hsp : ∀ H : Hp, SqL K H a (ns.map V.int) → sp [.ref a] H (fun v _ => v = .bl true) fun _ _ _ => False) :
    codeAny (model P w) callerA (.call (.ref fa) ⟨[.ref a], []⟩)
      (fun r s' => r = .ok (.ret (.bool true)) ∧ OldK s₁.heap s'.heap ∧ s'.os = s₁.os ∧ AllBare s'.gens) s₁ := by
  have rv := vals_ints hi
  have lv := hi.length
  have hl' : (ns.map V.int).length ≤ sizeLine := by rw [List.length_map]; exact hl
  cases hk : K.lookup a with
  | some o =>
    have e := KX a o hk
    rw [ha] at e
    cases e
    have sq : SqL K (fun _ => none) a (ns.map V.int) := Or.inr ⟨_, vs.toArray, _, hk, rfl, rfl, rfl, by rw [List.size_toArray, lv]; exact hl, by simpa using rv⟩
    have no : ∀ (b : Addr) (u : HO), ¬ ((fun _ : Addr => (none : Option HO)) b = some u) := fun b u z => nomatch z
    exact call_end (xs := ns.map V.int) (H := fun _ => none) KX hns hb hbb lim sy hg ha hr F hbind (hsp _ sq) (fun _ => Or.inl rfl) (fun b u z => absurd z (no b u)) (fun b z => absurd rfl z) fun z => absurd rfl z
  | none =>
    have at_a : (fun b : Addr => if b = a then some (HO.frz { cls := .type "list", data := .seq vs.toArray } (.lst (ns.map V.int))) else none) a = some (HO.frz { cls := .type "list", data := .seq vs.toArray } (.lst (ns.map V.int))) := if_pos rfl
    have off : ∀ b : Addr, b ≠ a → (fun b : Addr => if b = a then some (HO.frz { cls := .type "list", data := .seq vs.toArray } (.lst (ns.map V.int))) else none) b = none := fun b h => if_neg h
    generalize (fun b : Addr => if b = a then some (HO.frz { cls := .type "list", data := .seq vs.toArray } (.lst (ns.map V.int))) else none) = H at at_a off
    have sq : SqL K H a (ns.map V.int) := Or.inl (Or.inr ⟨_, at_a⟩)
    refine call_end (xs := ns.map V.int) (H := H) KX hns hb hbb lim sy hg ha hr F hbind (hsp _ sq) (fun b => ?_) (fun b u z => ?_) (fun b z => ?_) fun _ => hk
    · by_cases h : b = a
      · exact Or.inr ⟨_, _, by rw [h]; exact at_a⟩
      · exact Or.inl (off b h)
    · by_cases h : b = a
      · subst h
        rw [at_a] at z
        cases z
        exact ⟨ha, hl', vs, _, rv, ha⟩
      · rw [off b h] at z
        cases z
    · by_cases h : b = a
      · exact h
      · exact absurd (off b h) z

/-- the goal that k_head leaves, from the promise of law's def -/
theorem walk_g {l : PySem.W.OpenLaw} {n k : Nat} {q : Program} {loose : List Str} {XP : (Str → Option Value) → Heap → Prop} {YP : World → Heap → Prop}
    {d : DefRec} {K : Params → PySem.W.Frag} {sp : World → Sp} {x : Str} (hn : l.most = some n) (hn2 : n ≤ sizeLine) (hdf : d.params.defaults = [])
    (hr : Room k callerA) (him : importsNone q = true) (hY : ∀ (w : World) (h : Heap), YP w h → (K w.params).In h)
    (F : ∀ (w : World) (mg : Str → Option Value) (fa : Addr) (h : Heap), (K w.params).In h → h.Ns mainGlobals mg → mg d.name = some (.ref fa) →
      ∃ fd : FuncData, (∀ (s : Shared) (u : Value), BindsTo s fd ⟨[u], []⟩ [(x, u)]) ∧
        ∀ base : Heap, (K w.params).In base → base.Ns mainGlobals mg → Sys base → FnG l.prog w (K w.params) mg base CX0 k fa fd [x] (sp w))
    (hsp : ∀ (w : World) (H : Hp) (a : Addr) (ns : List Int), ns.length ≤ n → SqL (K w.params) H a (ns.map V.int) →
      sp w [.ref a] H (fun v _ => v = .bl true) fun _ _ _ => False) :
    PySem.W.WalkO q loose XP YP l.row.toRowW d [] (fun f vs => PySem.call f vs) := by
  refine Att.attach_call hn hdf ?_
  intro w s₀ s₁ mg mb fa o pm cd doc a vs ns G Y ho hd hcd hmg hobj hints hlen hg
  have KX := hY w _ Y
  obtain ⟨fd, hb, hF⟩ := F w mg fa _ KX G.T.g hmg
  exact law_end KX G.T.g G.T.b G.T.builtins G.T.nolimit (sys_of (G.T.seer him) G.T.nolimit) hg hobj hints (Nat.le_trans hlen hn2) hr hF hb (fun H hS => hsp w H a ns hlen hS)
end Vx
namespace Vx
open PySem PySem.Spec PyProof.Rows L2

/-- the def x of the text stands behind the top -/
def FunIn (K : PySem.W.Frag) (mg : Str → Option Value) (x : Str) (st : Stmt) : Prop := ∃ f fd, Fun K x x st f fd ∧ mg x = some (.ref f)
theorem funIn {K : PySem.W.Frag} {h : Heap} {mg : Str → Option Value} {x : Str} {st : Stmt} (X : K.In h) (G : h.Ns mainGlobals mg) {f : Addr} {oc kV dc pm cd ct : Value} {od an : Option Addr} {sl : Array (Option Value)}
    (a : PySem.W.nsIn K mainGlobals x = some (some (.ref f)))
    (l : K.lookup f = some ⟨oc, od, .func (PySem.W.fnOf x x (defArgs st) (defBody st) (defScope st) .none kV dc pm an cd ct), sl⟩)
    (c : PySem.W.codeIn K cd x = true) (k : PySem.W.keepIn K (.ref f) = true) : FunIn K mg x st :=
  ⟨f, _, fun_mk (st := st) l c k, PySem.W.mg_of X G a⟩

/-- a def that keeps its promise, by its name -/
structure Df (P : Program) (w : World) (K : PySem.W.Frag) (mg : Str → Option Value) (base : Heap) (x : Str) (k : Nat) (ps : List Str) (sp : Sp) : Prop where
  ex : ∃ f fd, FnOk P w K mg base CX0 k f fd ps sp ∧ mg x = some (.ref f) ∧ PySem.W.keepIn K (.ref f) = true ∧ Binds K fd ps []
structure Dg (P : Program) (w : World) (K : PySem.W.Frag) (mg : Str → Option Value) (base : Heap) (x : Str) (k : Nat) (ps : List Str) (sp : Sp) : Prop where
  ex : ∃ f fd, FnG P w K mg base CX0 k f fd ps sp ∧ mg x = some (.ref f) ∧ PySem.W.keepIn K (.ref f) = true ∧ Binds K fd ps []
section
variable {X : Cx} {k : Nat} {ps : List Str} {sp : Sp} {x : Str} {p pos : Pos} {e : Expr} {es : List Expr} {t : TA}
theorem pe_d (D : Df X.prog X.w X.K X.mg X.base x k ps sp) (hr : Room k X.A) (hg : Gl X x) (ha : PA X (e :: es) t)
    (hdb : (x == ("__debug__" : Str)) = false := by decide)
    (he : starEach (e :: es) X.env = (false, eval e X.env) :: starEach es X.env := by rfl)
    (hpl : (backTo pos (starEach es X.env)).any (·.1) = false := by rfl) :
    PE X (.Call (.Name x p) (e :: es) [] pos) (tCall sp [] E0 t) := by
  obtain ⟨f, fd, F, hm, hk, hb⟩ := D.ex
  exact pe_call F hr hg hm hk hb .nil pass0 ha hdb he hpl
theorem pe_d0 (D : Df X.prog X.w X.K X.mg X.base x k ps sp) (hr : Room k X.A) (hg : Gl X x)
    (hdb : (x == ("__debug__" : Str)) = false := by decide) : PE X (.Call (.Name x p) [] [] pos) (tCall sp [] E0 tNil) := by
  obtain ⟨f, fd, F, hm, hk, hb⟩ := D.ex
  exact pe_call0 F hr hg hm hk hb .nil pass0 hdb
theorem pe_dg (D : Dg X.prog X.w X.K X.mg X.base x k ps sp) (hr : Room k X.A) (ng : Ng X.A) (hg : Gl X x) (ha : PA X (e :: es) t)
    (hdb : (x == ("__debug__" : Str)) = false := by decide)
    (he : starEach (e :: es) X.env = (false, eval e X.env) :: starEach es X.env := by rfl)
    (hpl : (backTo pos (starEach es X.env)).any (·.1) = false := by rfl) :
    PE X (.Call (.Name x p) (e :: es) [] pos) (tCall sp [] E0 t) := by
  obtain ⟨f, fd, F, hm, hk, hb⟩ := D.ex
  exact pe_g F hr ng hg hm hk hb .nil pass0 ha hdb he hpl
end
theorem hu64 {A : Around} {k : Nat} (hr : Room k A) : A.units + 64 < cLine := hr.units

/-- the built-in names that the text leaves as they are -/
structure Bls (mg : Str → Option Value) : Prop where
  n_int : mg "int" = none
  n_len : mg "len" = none
  n_abs : mg "abs" = none
  n_divmod : mg "divmod" = none
  n_range : mg "range" = none
  n_min : mg "min" = none
  n_max : mg "max" = none
  n_all : mg "all" = none
  n_repr : mg "repr" = none
  n_isinstance : mg "isinstance" = none

/-! ### the reel -/
/-- a reel stands at a -/
def RlAt (a : Addr) (H : Hp) : Prop := ∃ x y z : Int, H a = some (.lst [.int x, .int y, .int z])
/-- all but a stays -/
def But (a : Addr) (H H' : Hp) : Prop := ∀ b o, H b = some o → b ≠ a → H' b = some o
theorem but_trans {a : Addr} {H H1 H2 : Hp} (p : But a H H1) (q : But a H1 H2) : But a H H2 := fun b o e n => q b o (p b o e n) n
theorem but_refl (a : Addr) (H : Hp) : But a H H := fun _ _ e _ => e
theorem same_but {H H' : Hp} (a : Addr) (e : Same H H') : But a H H' := fun b o h _ => e b o h
theorem but_upd {a : Addr} {H : Hp} {o : HO} : But a H (upd H a o) := fun b o e n => by rw [upd_ne n]; exact e
theorem but_new {a p : Addr} {H : Hp} {o : HO} (h : H p = none) : But a H (upd H p o) := fun b u e n => by
  rw [upd_ne (ne_of_none e h)]; exact e
theorem same_new {p : Addr} {H : Hp} {o : HO} (h : H p = none) : Same H (upd H p o) := fun b u e => by
  rw [upd_ne (ne_of_none e h)]; exact e

/-- _law_pull: a number from 0 on and below the second argument; the reel has gone on -/
def spPull : Sp := fun vs H Q _ => ∃ (a : Addr) (m : Int), vs = [.ref a, .int m] ∧ RlAt a H ∧ 0 < m ∧ m < 1000000 ∧
  ∀ (d : Int) (H' : Hp), 0 ≤ d → d < m → RlAt a H' → But a H H' → Q (.int d) H'

theorem divp_small {i j : Int} (h0 : 0 < j) (h1 : j < 1000000) : CDivP i j := ⟨h0, PyProof.noPylong_small (by omega)⟩
end Vx
namespace PySem
namespace VxE
open PySem.W PySem.Calls PyProof.Rows PySem.HandSPX
section
variable {M : Model} {A : Around} {E : Value → Shared → Prop} {h : Heap} {g : Array GenState} {d : Drawn} {t : Nat} {os : OsState}
  {nm q : Str} {C N : Addr} {bs bm bmB : List Value} {hd : Bool} {sn : List Str} {sub : List Value} {ab : Bool} {col : Option Bool}
  {dd : Option Addr} {k0 k1 k2 k3 k5 : Option Value} {B ni ii : String} {n : Str} {v : Value}
theorem new_check (F : ExcBaseFacts B ni ii bmB) (hT : ∀ X : String, bm.contains (.type X) = bmB.contains (.type X)) {Q : Unit → Shared → Prop}
    (hC : h.get? C = some (excClassObj nm q C N bs bm hd sn sub ab col dd k0 k1 k2 k3 k5 ni)) (hq : Q () ⟨h, g, d, t, os⟩) :
    wpAny M A (checkBuiltinCall ni ⟨[.ref C], [(n, v)]⟩) Q E ⟨h, g, d, t, os⟩ := by
  have c1 : (Value.ref C :: bm).contains (.type B) = true := by
    rw [List.contains_cons, hT, F.hasB]
    exact Bool.or_true _
  have c2 := F.noStar
  simp only [checkBuiltinCall, F.newKind, F.newSplit, F.newRow]
  repeat (first | refine wpAny_loadPart_at hC ?_ | (refine wpAny_isSubtype_exc hC ?_; rw [c1]) | refine wpAny_staticBase_exc hC ?_ | refine wpAny_madeBy_exc hC ?_ | simp only [bne_self_eq_false, Bool.false_eq_true, if_false] | wp_step)
  exact hq
end
section
variable {prog : Program} {w : World} {A : Around} {E : Value → Shared → Prop} {R : Result → Shared → Prop} {h : Heap} {g : Array GenState} {d : Drawn} {t : Nat} {os : OsState}
  {nm q : Str} {C N : Addr} {bs bm bmB : List Value} {hd : Bool} {sn : List Str} {sub : List Value} {ab : Bool} {col : Option Bool}
  {dd : Option Addr} {k0 k1 k2 k3 k5 : Option Value} {B ni ii : String} {n : Str} {v : Value}
theorem new_kw (F : ExcBaseFacts B ni ii bmB) (hT : ∀ X : String, bm.contains (.type X) = bmB.contains (.type X))
    (hC : h.get? C = some (excClassObj nm q C N bs bm hd sn sub ab col dd k0 k1 k2 k3 k5 ni))
    (hq : R (.ok (.ret (.ref (h.objs.size + 1)))) ⟨(h.push (W.kdv_tup [])).push (excO C h.objs.size), g, d, t, os⟩) :
    codeAny (model prog w) A (.builtin ni ⟨[.ref C], [(n, v)]⟩) R ⟨h, g, d, t, os⟩ := by
  have hends := F.ends
  have c1 : (Value.ref C :: bm).contains (.type B) = true := by
    rw [List.contains_cons, hT, F.hasB]
    exact Bool.or_true _
  have c2 : (Value.ref C :: bm).contains (.type "AttributeError") = false := by
    rw [List.contains_cons, hT, F.noAttr]
    rfl
  have c3 : (Value.ref C :: bm).contains (.type "NameError") = false := by
    rw [List.contains_cons, hT, F.noName]
    rfl
  have hz : ([] : List Value).length ≤ sizeLine := Nat.zero_le _
  refine codeAny_builtinAt F.entry ?_
  unfold Builtin.«BaseException.__new__»
  refine wpAt_bind ?_
  show wpAt _ _ _ (stack >>= _) _ _ _
  refine wpAt_bind (wpAt_stack fun p below => wpAt_of_wpAny ?_)
  wp_walk
  refine wpAt_of_wpAny ?_
  rw [F.owner]
  repeat (first | with_reducible refine wpAny_madeHere_exc F.canon hC ?_ | with_reducible refine wpAny_loadPart_at hC ?_ | (with_reducible refine wpAny_isSubtype_exc hC ?_; first | rw [c1] | rw [c2] | rw [c3]) | wp_step)
  show R _ _
  rw [Heap.size_push]
  exact hq
theorem type_kw (F : ExcBaseFacts B ni ii bmB) (hT : ∀ X : String, bm.contains (.type X) = bmB.contains (.type X)) {fI : Addr} {Q : Fin → Shared → Prop}
    (hC : h.get? C = some (excClassObj nm q C N bs bm hd sn sub ab col dd k0 k1 k2 k3 k5 ni))
    (hi : W.Looks (model prog w) h (typeLookup (.ref C) "__init__") (some (.ref fI)))
    (hb : ∀ self, W.Looks (model prog w) h (bindSpecial (.ref fI) self) (.ref fI, [self]))
    (hq : codeAny (model prog w) A (.call (.ref fI) ⟨[.ref (h.objs.size + 1)], [(n, v)]⟩)
      (fun r s' => match r with
        | .ok (.ret v) => v = .none ∧ Q (.done (.ret (.ref (h.objs.size + 1)))) s'
        | .ok _ => False
        | .error e => E e s') ⟨(h.push (W.kdv_tup [])).push (excO C h.objs.size), g, d, t, os⟩) :
    wpAny (model prog w) A (Builtin.«type.__call__» ⟨[.ref C], [(n, v)]⟩) Q E ⟨h, g, d, t, os⟩ := by
  repeat (first | with_reducible refine wpAny_loadPart_at hC ?_ | with_reducible refine wpAny_madeBy_exc hC ?_ | wp_step)
  refine codeAny_call_builtin_code (Code.quiet_builtin _ F.quiet) (new_check F hT hC ?_)
  refine new_kw F hT hC ?_
  show wpAny _ _ _ _ _ _
  have k : ∀ b o, h.get? b = some o → ((h.push (W.kdv_tup [])).push (excO C h.objs.size)).get? b = some o :=
    fun b o e => Heap.get?_push_of_some _ (Heap.get?_push_of_some _ e)
  have hC1 := k _ _ hC
  have hg : ((h.push (W.kdv_tup [])).push (excO C h.objs.size)).get? (h.objs.size + 1) = some (excO C h.objs.size) := by heap_get
  have hcC : (Value.ref C :: bm).contains (.ref C) = true := by simp
  have i1 := hi.keeps k
  have b1 := (hb (.ref (h.objs.size + 1))).keeps k
  unfold isInstance
  repeat (first | with_reducible refine wpAny_loadPart_at hg ?_ | (with_reducible refine wpAny_isSubtype_exc hC1 ?_; rw [hcC]) | wp_step)
  show wpAny _ _ (typeLookup (.ref C) _) _ _ _
  refine i1.at ?_
  refine wpAny_holding (wpAny_bind (b1.at ?_))
  refine wpAny_bind (wpAny_call (codeAny_mono hq fun r s' z => ?_))
  rcases r with e | (v | _ | _ | _) <;> first | exact z | exact z.elim | skip
  obtain ⟨rfl, z⟩ := z
  first
    | exact wpAny_pure (wpAny_pure z)
    | (wp_walk; exact z)
theorem call_kw (F : ExcBaseFacts B ni ii bmB) (hT : ∀ X : String, bm.contains (.type X) = bmB.contains (.type X)) {fI : Addr}
    (hC : h.get? C = some (excClassObj nm q C N bs bm hd sn sub ab col dd k0 k1 k2 k3 k5 ni))
    (hi : W.Looks (model prog w) h (typeLookup (.ref C) "__init__") (some (.ref fI)))
    (hb : ∀ self, W.Looks (model prog w) h (bindSpecial (.ref fI) self) (.ref fI, [self]))
    (hq : codeAny (model prog w) (A.under (.builtin "type.__call__" ⟨[.ref C], [(n, v)]⟩)) (.call (.ref fI) ⟨[.ref (h.objs.size + 1)], [(n, v)]⟩)
      (W.InitBack (h.objs.size + 1) R) ⟨(h.push (W.kdv_tup [])).push (excO C h.objs.size), g, d, t, os⟩) :
    codeAny (model prog w) A (.call (.ref C) ⟨[], [(n, v)]⟩) R ⟨h, g, d, t, os⟩ := by
  have f1 := tc_lookup
  have f2 := tc_bind (.ref C)
  have ty : (⟨h, g, d, t, os⟩ : Shared).TypeIs (.ref C) "type" := ⟨_, hC, rfl⟩
  refine codeAny_of_tree ?_
  show wpAny _ _ (callAny (.ref C) _) _ _ _
  repeat (any_goals (first | assumption | with_reducible refine wpAny_loadPart_at hC ?_ | wp_step))
  refine ⟨rfl, ?_⟩
  refine codeAny_call_builtin_at (Code.quiet_builtin _ (by decide +kernel)) entry_typeCall (wpAny_check_type_call_sub hC (type_kw F hT hC hi hb ?_))
  refine codeAny_mono hq fun r s' z => ?_
  rcases r with e | (v | _ | _ | _) <;> exact z
end
end VxE
end PySem
namespace PySem
namespace VxE
open PySem.W PySem.Calls PyProof.Rows PySem.Spec
section
variable {prog : Program} {w : World} {A : Around} {E : Value → Shared → Prop} {s : Shared} {K : Frag} {x D : Addr} {ox : Obj} {od : Option Obj}
theorem find_class {C : Addr} {name : Str} {a g : Value} (hc : (clsIn K C).isSome = true) (ha : findIn K (.ref C) name = some (some a))
    (hg : specialIn K a "__get__" = some (some g)) (ht : takesIn K a = some true) : findObj K C od name = some (.bind g a) := by
  obtain ⟨cd, hc⟩ := Option.isSome_iff_exists.mp hc
  unfold findObj
  rw [hc, Option.bind_some, ha, Option.bind_some]
  simp [hg, ht]
theorem get_cls {Q : Option Value → Shared → Prop} (h1 : findIn K (.ref D) "__getattribute__" = some (some (.builtin "BaseException.__getattribute__")))
    (h2 : findIn K (.ref D) "__getattr__" = some none) (h3 : subIn K (.ref D) (.type "BaseException") = some true) (h4 : hasDictIn K D = true)
    (h5 : findIn K (.ref D) "__class__" = some (some (.builtin "object.__class__")))
    (h6 : specialIn K (.builtin "object.__class__") "__get__" = some (some (.builtin "getset_descriptor.__get__")))
    (h7 : takesIn K (.builtin "object.__class__") = some true) (h8 : mroIn K D (.type "object") = some true) (X : K.In s.heap)
    (I : W.InstAt s.heap x ox D od) (h : Q (some (.ref D)) { s with toks := s.toks + 1 }) :
    wpAny (model prog w) A (getAttr? (.ref x) "__class__") Q E s := by
  have hf : findObj K D od "__class__" = some (.bind (.builtin "getset_descriptor.__get__") (.builtin "object.__class__")) :=
    find_class (by obtain ⟨cd, hc, _⟩ := any_some h4; rw [hc]; rfl) h5 h6 h7
  obtain ⟨hp, g, d, t, os⟩ := s
  have L0 := I.type (M := model prog w)
  have L1 := looks_findIn (M := model prog w) X h1
  have L2 := looks_findIn (M := model prog w) X h2
  have L3 := looks_find (M := model prog w) X I hf
  have sub : Looks (model prog w) hp (isInstance (.ref x) (.type "BaseException")) true := L0.andThen (looks_subIn X h3)
  have e0 : (false && onTheHeap (Value.builtin "BaseException.__getattribute__")) = false := rfl
  have e2 : (Value.builtin "BaseException.__getattribute__" == Value.builtin "object.__getattribute__") = false := by decide +kernel
  have e1 : (onTheHeap (Value.ref D) && Value.builtin "BaseException.__getattribute__" == Value.builtin "object.__getattribute__") = false := by
    rw [e2]
    rfl
  unfold getAttr? getAttrBy? getAttrBy
  refine wpAny_bind (wpAny_mkText (wpAny_bind (wpAny_attempt (wpAny_holding (wpAny_bind (L0.at (wpAny_bind (L1.at ?_))))))))
  show wpAny _ _ (if (onTheHeap (Value.ref D) && Value.builtin "BaseException.__getattribute__" == Value.builtin "object.__getattribute__") = true then _ else _) _ _ _
  rw [e1, if_neg Bool.false_ne_true]
  unfold getAttrByItsOwn hookBefore
  refine wpAny_bind ?_
  rw [if_pos (show onTheHeap (Value.ref D) = true from rfl)]
  refine L2.at (wpAny_bind (wpAny_attempt (wpAny_holding ?_)))
  unfold callGetattribute
  rw [e0, if_neg Bool.false_ne_true]
  unfold boundAndCalled
  rw [PySem.F.excAttr_ValueError.ga.bind (.ref x)]
  refine wpAny_bind (wpAny_pure ?_)
  refine wpAny_call (codeAny_call_builtin PySem.F.excAttr_ValueError.ga.plain PySem.F.entry_bexc_ga ?_)
  refine @check_slot (model prog w) _ _ ⟨hp, g, d, t + 1, os⟩ "BaseException.__getattribute__" "BaseException" "__getattribute__" (.ref x)
    [.str "__class__" t] [] _ (by decide +kernel) (by decide +kernel) sub (PySem.F.args_bexc_ga (.ref x) (.str "__class__" t)) ?_
  unfold Builtin.«object.__getattribute__»
  refine wpAny_bind (wpAny_of_eq (a := ((Value.ref x : Value), [Value.str "__class__" t])) (by first | rfl | (simp only [slotArgs]; rfl)) ?_)
  refine wpAny_bind (wpAny_pure (wpAny_bind (L0.at (wpAny_bind (L3.at ?_)))))
  refine wpAny_bind (wpAny_holding (wpAny_call (class_get (s := ⟨hp, g, d, t + 1, os⟩) (ox := ox) (od := od) X I h8 (wpAny_pure ?_))))
  show wpAny _ _ (handedOut (.ref D)) _ _ _
  rw [handedOut_of (v := .ref D) rfl]
  first
    | exact wpAny_pure (wpAny_pure h)
    | exact wpAny_pure h
    | exact wpAny_pure (wpAny_bind (wpAny_pure (wpAny_pure h)))

theorem kit_exc (h1 : findIn K (.ref D) "__getattribute__" = some (some (.builtin "BaseException.__getattribute__")))
    (h2 : findIn K (.ref D) "__getattr__" = some none) (h3 : subIn K (.ref D) (.type "BaseException") = some true) (h4 : hasDictIn K D = true)
    (h5 : findIn K (.ref D) "__class__" = some (some (.builtin "object.__class__")))
    (h6 : specialIn K (.builtin "object.__class__") "__get__" = some (some (.builtin "getset_descriptor.__get__")))
    (h7 : takesIn K (.builtin "object.__class__") = some true) (h8 : mroIn K D (.type "object") = some true) :
    KitX K (.ref x) (.ref D) (fun h => W.InstAt h x ox D od) := by
  obtain ⟨cd, hc, _⟩ := any_some h4
  unfold clsIn at hc
  split at hc
  · rename_i c1 d1 cd1 sl1 ho
    refine ⟨fun _ _ _ I => I.type, fun _ _ X _ A' Q' E' s' k q => ?_, fun h tp dd its n sl X htp => Bool.eq_false_iff.mpr fun q => ?_, fun X I k => get_cls h1 h2 h3 h4 h5 h6 h7 h8 X I k⟩
    · unfold isType loadHead
      exact wpAny_bind (wpAny_loadPart (k _ _ (X _ _ ho)) (wpAny_pure q))
    · have e : D = tp := Value.ref.inj (beq_iff_eq.mp q)
      subst e
      have z := (X _ _ ho).symm.trans htp
      cases z
  · cases hc
end
end VxE
end PySem

namespace Vx
open PySem PySem.Spec PyProof.Rows L2

/-- a class of the text over ValueError, HE its base of the text (none: ValueError itself) -/
structure Xc (K : PySem.W.Frag) (C : Addr) (up : List Value) : Prop where
  cls : ∃ nm q N bs sn sub ab col dd k0 k1 k2 k3 k5, K.lookup C = some (excClassObj nm q C N bs up true sn sub ab col dd k0 k1 k2 k3 k5 "ValueError.__new__")
  sa : PySem.W.findIn K (.ref C) "__setattr__" = some (some (.builtin "object.__setattr__"))
  ga : PySem.W.findIn K (.ref C) "__getattribute__" = some (some (.builtin "BaseException.__getattribute__"))
  gg : PySem.W.findIn K (.ref C) "__getattr__" = some none
  ca : PySem.W.findIn K (.ref C) "__class__" = some (some (.builtin "object.__class__"))
  kC : PySem.W.keepIn K (.ref C) = true
/-- the way up from ValueError -/
def veUp : List Value := [.type "ValueError", .type "Exception", .type "BaseException", .type "object"]
section
variable {K : PySem.W.Frag} {C : Addr} {up : List Value}
theorem Xc.clsIn (T : Xc K C up) : ∃ nm q N bs sn sub ab col, PySem.W.clsIn K C = some { name := nm, bases := bs, mro := .ref C :: up, ns := N, qualname := q, hasDict := true, slotNames := sn, subclasses := sub, abstract := ab, collection := col, hasDel := false } := by
  obtain ⟨nm, q, N, bs, sn, sub, ab, col, dd, k0, k1, k2, k3, k5, hC⟩ := T.cls
  refine ⟨nm, q, N, bs, sn, sub, ab, col, ?_⟩
  unfold PySem.W.clsIn
  rw [hC]
theorem Xc.mro (T : Xc K C up) (b : Value) : PySem.W.mroIn K C b = some ((Value.ref C :: up).contains b) := by
  obtain ⟨nm, q, N, bs, sn, sub, ab, col, h⟩ := T.clsIn
  unfold PySem.W.mroIn
  rw [h]
  rfl
theorem Xc.sub (T : Xc K C up) (b : Value) : PySem.W.subIn K (.ref C) b = some ((Value.ref C :: up).contains b) := T.mro b
theorem Xc.ty (T : Xc K C up) : PySem.W.typeIn K (.ref C) = some (.type "type") := by
  obtain ⟨nm, q, N, bs, sn, sub, ab, col, dd, k0, k1, k2, k3, k5, hC⟩ := T.cls
  show (K.lookup C).map (·.cls) = _
  rw [hC]
  rfl
theorem Xc.hd (T : Xc K C up) : PySem.W.hasDictIn K C = true := by
  obtain ⟨nm, q, N, bs, sn, sub, ab, col, h⟩ := T.clsIn
  unfold PySem.W.hasDictIn
  rw [h]
  rfl
theorem Xc.is (T : Xc K C up) : (PySem.W.clsIn K C).isSome = true := by
  obtain ⟨nm, q, N, bs, sn, sub, ab, col, h⟩ := T.clsIn
  rw [h]
  rfl
theorem Xc.exC (T : Xc K C up) (h : up.contains (.type "BaseException") = true) : PySem.W.subIn K (.ref C) (.type "BaseException") = some true := by
  rw [T.sub, List.contains_cons, h, Bool.or_true]
theorem Xc.oex (T : Xc K C up) (h : PySem.HandSPX.refsVE up = true) (hb : up.contains (.type "BaseException") = true) : OexC K C := by
  obtain ⟨nm, q, N, bs, sn, sub, ab, col, dd, k0, k1, k2, k3, k5, hC⟩ := T.cls
  exact ⟨⟨nm, q, N, bs, up, sn, sub, ab, col, dd, k0, k1, k2, k3, k5, hC, h⟩, T.sa, T.exC hb, T.ty, T.kC⟩
/-- isinstance by the classes' ways up -/
theorem Xc.kit (T : Xc K C up) {D : Addr} {up' : List Value} (T' : Xc K D up') : PySem.W.kitOne K (.ref C) (.ref D) = some ((Value.ref C :: up).contains (.ref D)) := by
  unfold PySem.W.kitOne
  by_cases h : (Value.ref C == Value.ref D) = true
  · rw [if_pos h, List.contains_cons]
    have e : C = D := Value.ref.inj (beq_iff_eq.mp h)
    subst e
    simp
  · rw [if_neg h]
    show (if ((PySem.W.clsIn K D).isSome && PySem.W.typeIn K (.ref D) == some (.type "type")) = true then PySem.W.subIn K (.ref C) (.ref D) else none) = _
    rw [T'.is, T'.ty, T.sub]
    rfl
theorem Xc.kitT (T : Xc K C up) {n : String} (h : PySem.W.kitMeta n = true) : PySem.W.kitOne K (.ref C) (.type n) = some (up.contains (.type n)) := by
  unfold PySem.W.kitOne
  rw [if_neg (show ¬ (Value.ref C == Value.type n) = true from fun z => by cases beq_iff_eq.mp z)]
  show (if PySem.W.kitMeta n = true then PySem.W.subIn K (.ref C) (.type n) else none) = _
  rw [if_pos h, T.sub, List.contains_cons]
  rfl
end

/-- an exception of the class at C that keeps v under f -/
def ExA (H : Hp) (e C : Addr) (f : Str) (v : V) : Prop := ∃ d, H e = some (exo e C (some d)) ∧ H d = some (exd d [(f, v)])
/-- an exception of the class at C that keeps nothing -/
def Ex0 (H : Hp) (e C : Addr) : Prop := H e = some (exo e C none)
/-- an exception of the class at C -/
def IsEx (H : Hp) (e C : Addr) : Prop := Ex0 H e C ∨ ∃ d fs, H e = some (exo e C (some d)) ∧ H d = some (exd d fs)
theorem ExA.is {H : Hp} {e C : Addr} {f : Str} {v : V} (h : ExA H e C f v) : IsEx H e C := let ⟨d, h, k⟩ := h; Or.inr ⟨d, _, h, k⟩
theorem Ex0.is {H : Hp} {e C : Addr} (h : Ex0 H e C) : IsEx H e C := Or.inl h
theorem ExA.mono {H H' : Hp} {e C : Addr} {f : Str} {v : V} (s : Same H H') (h : ExA H e C f v) : ExA H' e C f v := let ⟨d, a, b⟩ := h; ⟨d, s _ _ a, s _ _ b⟩
theorem IsEx.mono {H H' : Hp} {e C : Addr} (s : Same H H') (h : IsEx H e C) : IsEx H' e C := by
  rcases h with h | ⟨d, fs, a, b⟩
  · exact Or.inl (s _ _ h)
  · exact Or.inr ⟨d, fs, s _ _ a, s _ _ b⟩

/-- what the built-in __class__ is to the written part -/
structure ClsG (K : PySem.W.Frag) : Prop where
  hn : PySem.W.specialIn K (.builtin "object.__class__") "__get__" = some (some (.builtin "getset_descriptor.__get__"))
  ht : PySem.W.takesIn K (.builtin "object.__class__") = some true

section
variable {X : Cx} {pins : List (Addr × Obj)} {σ : L2.St} {H : Hp} {s : Shared}
theorem Inv.exo_inst {a C : Addr} (I : Inv X pins σ H s) (h : IsEx H a C) : ∃ ox od, PySem.W.InstAt s.heap a ox C od := by
  rcases h with h | ⟨d, fs, h, hd⟩
  · obtain ⟨t1, ho⟩ := exo_at I.hok h
    exact ⟨_, none, ho, rfl, rfl, trivial⟩
  · obtain ⟨t1, ho⟩ := exo_at I.hok h
    obtain ⟨mA, ⟨o, es, ep, hdo, _⟩, _⟩ := exd_at I.hok hd
    exact ⟨_, some o, ho, rfl, rfl, hdo⟩
/-- isinstance(e, c) -/
def rIsX (K : PySem.W.Frag) : List V → Hp → VK → Prop := fun xs H Q => ∃ (a C : Addr) (up : List Value) (c : V) (cv : Value) (b : Bool), xs = [.ref a, c] ∧ IsEx H a C ∧
  Xc K C up ∧ up.contains (.type "BaseException") = true ∧ up.contains (.type "object") = true ∧ (∀ u, RelV c u → u = cv) ∧ PySem.W.kitOne K (.ref C) cv = some b ∧ Q (.bl b) H
theorem call_isX (G : ClsG X.K) : CallR X (.builtin "isinstance") (rIsX X.K) := by
  intro pins s σ H xs us Q I r h
  obtain ⟨a, C, up, c, cv, b, rfl, hx, T, hb, ho, hcv, e, q⟩ := h
  obtain ⟨u, u2, rfl, r1, r2⟩ := vals2 r
  cases r1
  have ec := hcv _ r2
  subst ec
  obtain ⟨ox, od, J⟩ := Inv.exo_inst I hx
  have hm : PySem.W.mroIn X.K C (.type "object") = some true := by rw [T.mro, List.contains_cons, ho, Bool.or_true]
  exact PySem.W.kia_one (PySem.VxE.kit_exc T.ga T.gg (T.exC hb) T.hd T.ca G.hn G.ht hm) I.kIn J e (fun z => nomatch z)
    fun tk => ⟨.bl b, H, I.kept (t' := tk) fun _ _ z => z, rfl, q⟩
/-- isinstance(e, (T, ..)), built-in classes -/
def rIsXT (K : PySem.W.Frag) : List V → Hp → VK → Prop := fun xs H Q => ∃ (a C t : Addr) (up : List Value) (ns : List String) (b : Bool), xs = [.ref a, .ref t] ∧ IsEx H a C ∧
  Xc K C up ∧ up.contains (.type "BaseException") = true ∧ up.contains (.type "object") = true ∧ H t = some (.tup (ns.map V.ty)) ∧ PySem.W.kitAny K (.ref C) (ns.map Value.type) = some b ∧ Q (.bl b) H
theorem vals_ty : ∀ {ns : List String} {us : List Value}, Vals (ns.map V.ty) us → us = ns.map Value.type
  | [], _, .nil => rfl
  | n :: ns, _, .cons r t => by
    have e : _ = Value.type n := r
    rw [List.map_cons, e, vals_ty t]
theorem call_isXT (G : ClsG X.K) : CallR X (.builtin "isinstance") (rIsXT X.K) := by
  intro pins s σ H xs us Q I r h
  obtain ⟨a, C, t, up, ns, b, rfl, hx, T, hb, ho, ht, e, q⟩ := h
  obtain ⟨u, u2, rfl, r1, r2⟩ := vals2 r
  cases r1
  cases r2
  obtain ⟨its, rv, ⟨o, h1, h2, n, h3⟩, _⟩ := I.tuple (SqT.of ht)
  have ei := vals_ty rv
  subst ei
  obtain ⟨oc, odd, od', osl⟩ := o
  dsimp only at h2 h3
  subst h2 h3
  obtain ⟨ox, od, J⟩ := Inv.exo_inst I hx
  have hm : PySem.W.mroIn X.K C (.type "object") = some true := by rw [T.mro, List.contains_cons, ho, Bool.or_true]
  exact PySem.W.kia_tup (PySem.VxE.kit_exc T.ga T.gg (T.exC hb) T.hd T.ca G.hn G.ht hm) I.kIn J h1 e (fun z => nomatch z)
    fun tk => ⟨.bl b, H, I.kept (t' := tk) fun _ _ z => z, rfl, q⟩

/-- e.f of an exception -/
def tXa (K : PySem.W.Frag) (f : Str) (te : TE) : TE := fun σ H Q => te σ H fun x H1 => ∃ (a C : Addr) (up : List Value) (v : V), x = .ref a ∧ Xc K C up ∧ up.contains (.type "BaseException") = true ∧
  PySem.W.findIn K (.ref C) f = some none ∧ ExA H1 a C f v ∧ Q v H1
theorem pe_xa {e : Expr} {te : TE} {pos : Pos} {f : Str} (he : PE X e te) (hb : attributeBase e f X.env (eval e X.env) = eval e X.env := by rfl) : PE X (.Attribute e f pos) (tXa X.K f te) := by
  refine ⟨fun pins s σ H Q I h => ?_⟩
  refine attr_of hb (thn (he.run pins s σ H _ I h) ?_)
  rintro u s1 ⟨x, H1, I1, rx, a, C, up, v, ex, T, hbe, hno, ⟨d, ha, hd⟩, q⟩
  subst ex
  obtain rfl : u = Value.ref a := rx
  obtain ⟨t1, ho⟩ := exo_at I1.hok ha
  obtain ⟨mA, hns, hr⟩ := exd_at I1.hok hd
  obtain ⟨od, hod, hl⟩ := lookIn_ns hns
  obtain ⟨u, hu, ru⟩ := RelO.some_of (v := v) (o := mA f) (by have := hr f; rw [lookup_put, if_pos rfl] at this; exact this)
  have J : PySem.W.InstAt s1.heap a _ C (some od) := ⟨ho, rfl, rfl, hod⟩
  exact HandSPX.exc_get I1.kIn J T.ga T.gg (T.exC hbe) (PySem.W.findObj_own T.hd hno rfl (by rw [hl, hu])) (handed_of ru) ⟨v, H1, I1.tok _, ru, q⟩
end

/-- __init__ of such a class: the new exception, and its dict with the one attribute -/
def spIni (K : PySem.W.Frag) (C : Addr) (f : Str) : Sp := fun vs H Q _ => ∃ (a : Addr) (v : V), vs = [.ref a, v] ∧ H a = some (exo a C none) ∧
  ∀ d, H d = none → d ≠ a → Q .non (upd (upd H d (exd d [(f, v)])) a (exo a C (some d)))
structure Ini (K : PySem.W.Frag) (C : Addr) (f : Str) : Prop where
  ex : ∃ fI fd, PySem.W.findIn K (.ref C) "__init__" = some (some (.ref fI)) ∧ PySem.W.typeIn K (.ref fI) = some (.type "function") ∧
    (∀ P w mg base, FnOk P w K mg base CX0 1 fI fd ["self", f] (spIni K C f)) ∧ Binds K fd ["self", f] [] ∧
    ∀ s e v, BindsTo s fd ⟨[e], [(f, v)]⟩ [("self", e), (f, v)]
  no : PySem.W.findIn K (.ref C) f = some none
theorem ini_ok {P : Program} {w : World} {K : PySem.W.Frag} {mg : Str → Option Value} {base : Heap} {C fI : Addr} {fd : FuncData} {f qn : Str} {st : Stmt} {p1 p2 p3 p4 : Pos}
    (T : OexC K C) (no : PySem.W.findIn K (.ref C) f = some none) (F : Fun K "__init__" qn st fI fd) (S : FnScope ["self", f] ["self", f] (defScope st))
    (hb : defBody st = [.Assign [.Attribute (.Name "self" p1) f p2] (.Name f p3) p4]) (hd : (f == ("__debug__" : Str)) = false) (hc : (f == ("__classdict__" : Str)) = false) :
    FnOk P w K mg base CX0 1 fI fd ["self", f] (spIni K C f) := by
  have vis : ∀ x ∈ (["self", f] : List Str), Vis (defScope st) x := fun x hx => (S.par x hx).elim Or.inl fun z => Or.inr (Or.inl z)
  refine F.ok S (fun vs H Q E h => ?_) (fun cdv A outer s H vs Q E hr h => ?_)
  · obtain ⟨a, v, rfl, _⟩ := h
    rfl
  · obtain ⟨a, v, rfl, ha, q⟩ := h
    rw [hb]
    refine ⟨_, pss_one (ps_ost (pe_var (i := 0) rfl (vis _ (List.Mem.head _))) (pe_var (i := 1) rfl (vis _ (List.Mem.tail _ (List.Mem.head _))) hd hc)), ?_⟩
    refine ⟨_, rfl, _, rfl, a, C, rfl, T, no, Or.inl ⟨ha, fun d hd hn => ?_⟩⟩
    exact q d hd hn

section
variable {X : Cx} {pins : List (Addr × Obj)} {σ : L2.St} {H : Hp} {Q : VK} {C : Addr} {f x : Str} {p pos : Pos} {e : Expr} {te : TE}
/-- C(v), C(f=v): kw tells which -/
theorem run_exc {s : Shared} {v : V} {u : Value} (T : OexC X.K C) (N : Ini X.K C f) (hr : Room 2 X.A) (I : Inv X pins σ H s) (r : RelV v u) (kw : Bool)
    (q : ∀ a H2, Same H H2 → ExA H2 a C f v → Q (.ref a) H2) :
    wpAny (model X.prog X.w) X.A (if kw then call (.ref C) [] [(f, u)] else call (.ref C) [u]) (EP X pins σ Q) X.xe s := by
  obtain ⟨nm, qn, N0, bs, bm, sn, sub, ab, col, dd, k0, k1, k2, k3, k5, hC, hbm⟩ := T.cls
  obtain ⟨fI, fd, iC, tI, F, bP, bK⟩ := N.ex
  obtain ⟨hp, g, dr, tk, os⟩ := s
  have hn : H (hp.objs.size + 1) = none := I.hok.fresh (Nat.le_succ _)
  have hq : spIni X.K C f [.ref (hp.objs.size + 1), v] (upd H (hp.objs.size + 1) (exo (hp.objs.size + 1) C none)) (fun z H2 => z = .non ∧ Q (.ref (hp.objs.size + 1)) H2) E0 := by
    refine ⟨_, v, rfl, upd_same, fun d hd hne => ⟨rfl, ?_⟩⟩
    rw [upd_ne hne] at hd
    refine q _ _ (fun b o z => ?_) ⟨d, upd_same, by rw [upd_ne hne, upd_same]⟩
    rw [upd_ne (ne_of_none z hn), upd_ne (ne_of_none z hd), upd_ne (ne_of_none z hn)]
    exact z
  have mk : ∀ ws : List Value, ∃ h' : Heap, h' = (hp.push (PySem.W.kdv_tup ws)).push (PySem.HandSPX.excO C hp.objs.size) ∧
      Inv X pins σ (upd H (hp.objs.size + 1) (exo (hp.objs.size + 1) C none)) ⟨h', g, dr, tk, os⟩ := fun ws => by
    have kk : ∀ b o, hp.get? b = some o → ((hp.push (PySem.W.kdv_tup ws)).push (PySem.HandSPX.excO C hp.objs.size)).get? b = some o :=
      fun b o z => Heap.get?_push_of_some _ (Heap.get?_push_of_some _ z)
    have hg : ((hp.push (PySem.W.kdv_tup ws)).push (PySem.HandSPX.excO C hp.objs.size)).get? (hp.objs.size + 1) = some (PySem.HandSPX.excO C hp.objs.size) := by heap_get
    exact ⟨_, rfl, I.laid (t' := tk) (a := hp.objs.size + 1) (o := exo (hp.objs.size + 1) C none) kk (Nat.le_succ _) (exo_ok hg)⟩
  have r2 : Vals [V.ref (hp.objs.size + 1), v] [Value.ref (hp.objs.size + 1), u] := .cons rfl (.cons r .nil)
  have fin : ∀ {h' : Heap} {r : Result} {s' : Shared}, Inv X pins σ (upd H (hp.objs.size + 1) (exo (hp.objs.size + 1) C none)) ⟨h', g, dr, tk, os⟩ →
      CR CX0 X.stack X.prog X.w (upd H (hp.objs.size + 1) (exo (hp.objs.size + 1) C none)) ⟨h', g, dr, tk, os⟩ (fun z H2 => z = .non ∧ Q (.ref (hp.objs.size + 1)) H2) E0 r s' →
      match r with
      | .ok (.ret z) => z = .none ∧ EP X pins σ Q (.ref (hp.objs.size + 1)) s'
      | .ok _ => False
      | .error er => X.xe er s' := fun {h' r s'} I2 hc => by
    cases r with
    | error er => exact hc.elim
    | ok fl =>
      cases fl with
      | ret z =>
        obtain ⟨z', H2, I3, rz, ez, q3⟩ := I2.after hc
        subst ez
        exact ⟨rz, V.ref (hp.objs.size + 1), H2, I3, rfl, q3⟩
      | next => exact hc.elim
      | brk => exact hc.elim
      | cont => exact hc.elim
  cases kw with
  | false =>
    obtain ⟨h', eh, I2⟩ := mk [u]
    show wpAny _ _ (call (.ref C) [u]) _ _ _
    refine wpAny_call (PySem.HandSPX.call_own PySem.F.excBase_ValueError (fun Y => PySem.HandSPX.refsVE_contains Y bm hbm) (I.kIn _ _ hC) (PySem.W.looks_findIn I.kIn iC)
      (fun self => PySem.W.bind_fn I.kIn self tI) (by show 1 ≤ sizeLine; rw [sizeLine_eq]; decide) ?_)
    rw [← eh]
    refine codeAny_mono ((F X.prog X.w X.mg X.base).run _ X.stack _ _ ⟨[.ref (hp.objs.size + 1), u], []⟩ [.ref (hp.objs.size + 1), u] _ _ E0 (hr.make C [u] [])
      (I2.env0.make C [u] []) (bP _ [.ref (hp.objs.size + 1), u] I2.kIn rfl) r2 hq) fun r s' hc => ?_
    have z := fin I2 hc
    cases r with
    | error er => exact z
    | ok fl => cases fl <;> exact z
  | true =>
    obtain ⟨h', eh, I2⟩ := mk []
    show wpAny _ _ (call (.ref C) [] [(f, u)]) _ _ _
    refine wpAny_call (PySem.VxE.call_kw PySem.F.excBase_ValueError (fun Y => PySem.HandSPX.refsVE_contains Y bm hbm) (I.kIn _ _ hC) (PySem.W.looks_findIn I.kIn iC)
      (fun self => PySem.W.bind_fn I.kIn self tI) ?_)
    rw [← eh]
    refine codeAny_mono ((F X.prog X.w X.mg X.base).run _ X.stack _ _ ⟨[.ref (hp.objs.size + 1)], [(f, u)]⟩ [.ref (hp.objs.size + 1), u] _ _ E0 (hr.make C [] [(f, u)])
      (I2.env0.make C [] [(f, u)]) (bK _ _ _) r2 hq) fun r s' hc => ?_
    have z := fin I2 hc
    cases r with
    | error er => exact z
    | ok fl => cases fl <;> exact z
/-- C(e) -/
def tXn (C : Addr) (f : Str) (t : TA) : TE := fun σ H Q => t σ H fun vs H1 => ∃ v, vs = [v] ∧ ∀ a H2, Same H1 H2 → ExA H2 a C f v → Q (.ref a) H2
theorem pe_xn {es : List Expr} {t : TA} (T : OexC X.K C) (N : Ini X.K C f) (hr : Room 2 X.A) (hg : Gl X x) (hm : X.mg x = some (.ref C)) (ha : PA X (e :: es) t)
    (hdb : (x == ("__debug__" : Str)) = false := by decide) (hs : starEach (e :: es) X.env = (false, eval e X.env) :: starEach es X.env := by rfl)
    (hpl : (backTo pos (starEach es X.env)).any (·.1) = false := by rfl) : PE X (.Call (.Name x p) (e :: es) [] pos) (tXn C f t) := by
  refine ⟨fun pins s σ H Q I h => ?_⟩
  refine wpAny_Call_Name_kw (ld_glob I hg hm ?_ hdb)
  refine PySem.W.callWith_K (h₀ := X.base) I.ok.mod.kin T.kC (thn (ha.run pos pins s σ H _ I h) ?_) hs hpl
  rintro us s1 ⟨vs, H1, I1, r, v, rfl, q⟩
  obtain ⟨u, rfl, ru⟩ := vals1 r
  exact ⟨I1.kIn, run_exc T N hr I1 ru false q⟩
/-- C(f=e) -/
theorem pe_xk {kws : List Keyword} {t : TA} (T : OexC X.K C) (N : Ini X.K C f) (hr : Room 2 X.A) (hg : Gl X x) (hm : X.mg x = some (.ref C)) (hkw : PK X kws t)
    (hall : (backToKw pos (keywordEach kws X.env)).all (·.1.isSome) = true := by rfl) (hks : (backToKw pos (keywordEach kws X.env)).filterMap (·.1) = [f] := by rfl)
    (hdb : (x == ("__debug__" : Str)) = false := by decide)
    (hpl : ((backTo pos (starEach [] X.env)).any (·.1) || (backToKw pos (keywordEach kws X.env)).any (·.1.isNone)) = false := by rfl) :
    PE X (.Call (.Name x p) [] kws pos) (tXn C f t) := by
  refine ⟨fun pins s σ H Q I h => ?_⟩
  refine wpAny_Call_Name_kw (ld_glob I hg hm ?_ hdb)
  refine PySem.W.callWith_KW0 (h₀ := X.base) I.ok.mod.kin T.kC hall (thn (hkw.run pos pins s σ H _ I h) ?_) hpl
  rintro us s1 ⟨vs, H1, I1, r, v, rfl, q⟩
  obtain ⟨u, rfl, ru⟩ := vals1 r
  refine ⟨I1.kIn, ?_⟩
  rw [hks]
  exact run_exc T N hr I1 ru true q
/-- C() of a class without an own __init__ -/
def tX0 (C : Addr) : TE := fun _ H Q => ∀ a H2, Same H H2 → Ex0 H2 a C → Q (.ref a) H2
theorem pe_x0 {bmB : List Value} {B ni ii : String} (F : ExcBaseFacts B ni ii bmB) (q0 : PySem.W.excIn X.K C bmB ni = true) (kC : PySem.W.keepIn X.K (.ref C) = true) (hg : Gl X x) (hm : X.mg x = some (.ref C))
    (hdb : (x == ("__debug__" : Str)) = false := by decide) : PE X (.Call (.Name x p) [] [] pos) (tX0 C) := by
  refine ⟨fun pins s σ H Q I h => ?_⟩
  refine wpAny_Call_Name_kw (ld_glob I hg hm ?_ hdb)
  refine PySem.W.callWith_K0 I.kIn kC ?_
  obtain ⟨bm, N, nm, qn, bs, hdct, sn, sub, ab, col, dd, k0, k1, k2, k3, k5, mN, hC, hN, hni, T⟩ := exc_obj I.kIn q0
  obtain ⟨hp, g, dr, tk, os⟩ := s
  refine wpAny_call_exc_subT F T hC hN hni (fun h' a hm => ?_) (Nat.zero_le _)
  have hn : H a = none := I.hok.gone hm.new
  obtain ⟨t, ht, _, _⟩ := hm.there
  exact ⟨.ref a, upd H a (exo a C none), I.laidN hm.keeps hm.new hn (exo_ok ht), rfl, h a _ (same_new hn) upd_same⟩
end
end Vx
namespace Vx
open PySem PySem.Spec PyProof.Rows L2

mutual
/-- a bound on the signs of d's repr -/
def cost : PyData → Nat
  | .none => 4
  | .bool _ => 5
  | .int _ => 1922
  | .str x => (reprText x).length
  | .list xs => costs xs + 2
  | .tuple xs => costs xs + 3
  | .dict kvs => costKv kvs + 2
def costs : List PyData → Nat
  | [] => 0
  | x :: xs => cost x + 2 + costs xs
def costKv : List (PyData × PyData) → Nat
  | [] => 0
  | (k, v) :: r => cost k + cost v + 4 + costKv r
end

theorem listText_le (ts : List Str) : (listText ts).length ≤ piled ts + 2 := by
  unfold listText
  rw [strLen_append]
  have e1 : (("]" : String) : Str).length = 1 := rfl
  cases ts with
  | nil =>
    show (("[" : String) : Str).length + _ ≤ _
    decide
  | cons t r =>
    have h : (textFrom 0 "[" (t :: r)) = textFrom 1 ((("[" : String) : Str) ++ ((if 0 > 0 then ", " else "" : String) : Str) ++ t) r := rfl
    rw [h, textFrom_length_pos r 1 _ (by decide), strLen_append, strLen_append, piled_cons, e1]
    have e2 : (("[" : String) : Str).length = 1 := rfl
    have e3 : (((if 0 > 0 then ", " else "" : String) : Str)).length = 0 := by decide
    omega
theorem tupleText_le (ts : List Str) : (tupleText ts).length ≤ piled ts + 3 := by
  have := fmt_text ts
  omega
theorem dictText_le (ts : List Str) : (dictText ts).length ≤ piled ts + 2 := by
  unfold dictText
  rw [strLen_append, strLen_append]
  have e1 : (("}" : String) : Str).length = 1 := rfl
  have e2 : (("{" : String) : Str).length = 1 := rfl
  by_cases h : ts = []
  · subst h
    decide
  · have := join_length_add ts h
    omega
theorem bool_le (b : Bool) : (PyData.bool b).shown.length ≤ 5 := by cases b <;> decide
mutual
theorem shown_le : ∀ d : PyData, d.showable = true → d.shown.length ≤ cost d
  | .none, _ => by decide
  | .bool b, _ => bool_le b
  | .int i, h => by
    have h' : i.natAbs.log2 < 1920 := by simpa [PyData.showable] using h
    have z := PyProof.Rows.int_text_len_1921 h'
    show (Str.ofString (toString i)).length ≤ 1922
    omega
  | .str x, _ => Nat.le_refl _
  | .list xs, h => by
    have z := showns_le xs (by simpa [PyData.showable] using h)
    have y := listText_le (PyData.shownAll xs)
    show (listText (PyData.shownAll xs)).length ≤ costs xs + 2
    omega
  | .tuple xs, h => by
    have z := showns_le xs (by simpa [PyData.showable] using h)
    have y := tupleText_le (PyData.shownAll xs)
    show (tupleText (PyData.shownAll xs)).length ≤ costs xs + 3
    omega
  | .dict kvs, h => by
    have z := shownKv_le kvs (by simpa [PyData.showable] using h)
    have y := dictText_le (PyData.shownKv kvs)
    show (dictText (PyData.shownKv kvs)).length ≤ costKv kvs + 2
    omega
theorem showns_le : ∀ xs : List PyData, PyData.showableAll xs = true → piled (PyData.shownAll xs) ≤ costs xs
  | [], _ => Nat.le_refl _
  | x :: xs, h => by
    have h' : x.showable = true ∧ PyData.showableAll xs = true := by simpa [PyData.showableAll] using h
    have a := shown_le x h'.1
    have b := showns_le xs h'.2
    show piled (x.shown :: PyData.shownAll xs) ≤ cost x + 2 + costs xs
    rw [piled_cons]
    omega
theorem shownKv_le : ∀ kvs : List (PyData × PyData), PyData.showableKv kvs = true → piled (PyData.shownKv kvs) ≤ costKv kvs
  | [], _ => Nat.le_refl _
  | (k, v) :: r, h => by
    have h' : (k.showable = true ∧ v.showable = true) ∧ PyData.showableKv r = true := by simpa [PyData.showableKv] using h
    have a := shown_le k h'.1.1
    have b := shown_le v h'.1.2
    have c := shownKv_le r h'.2
    show piled ((k.shown ++ (((": " : String) : Str)) ++ v.shown) :: PyData.shownKv r) ≤ cost k + cost v + 4 + costKv r
    rw [piled_cons, strLen_append, strLen_append]
    have e : ((": " : String) : Str).length = 2 := rfl
    omega
end
/-- d may be shown -/
def Okd (d : PyData) : Prop := d.showable = true ∧ d.depth < 60 ∧ cost d ≤ 16000000
theorem Okd.fits {d : PyData} (h : Okd d) : d.shown.length ≤ sizeLine := by
  have := shown_le d h.1
  have := h.2.2
  rw [sizeLine_eq]
  omega
/-- what a repr asks, said once -/
theorem repr_q {K : PySem.W.Frag} {H : Hp} {Q : VK} {a : Addr} {d : PyData} (h : Rp K H (.ref a) d) (o : Okd d) (q : Q (.str d.shown) H) :
    ∃ a' d', [V.ref a] = [.ref a'] ∧ Rp K H (.ref a') d' ∧ d'.showable = true ∧ d'.depth < 60 ∧ d'.shown.length ≤ sizeLine ∧ Q (.str d'.shown) H :=
  ⟨a, d, rfl, h, o.1, o.2.1, o.fits, q⟩
theorem rpa_bls {K : PySem.W.Frag} {H : Hp} : ∀ bs : List Bool, RpA K H (bs.map V.bl) (bs.map PyData.bool)
  | [] => .nil
  | b :: bs => .cons (.bl b) (rpa_bls bs)
theorem okd_bls (bs : List Bool) (h : bs.length ≤ 1000) : Okd (.list (bs.map PyData.bool)) := by
  have h1 : ∀ bs : List Bool, PyData.showableAll (bs.map PyData.bool) = true := by
    intro bs
    induction bs with
    | nil => rfl
    | cons b bs ih => simp [PyData.showableAll, PyData.showable, ih]
  have h2 : ∀ bs : List Bool, costs (bs.map PyData.bool) = 7 * bs.length := by
    intro bs
    induction bs with
    | nil => rfl
    | cons b bs ih =>
      show cost (PyData.bool b) + 2 + costs (bs.map PyData.bool) = _
      rw [ih, List.length_cons]
      show 5 + 2 + _ = _
      omega
  have h3 : ∀ bs : List Bool, PyData.depthAll (bs.map PyData.bool) ≤ 1 := by
    intro bs
    induction bs with
    | nil => simp [PyData.depthAll]
    | cons b bs ih =>
      simp only [List.map_cons, PyData.depthAll, PyData.depth]
      omega
  refine ⟨by simpa [PyData.showable] using h1 bs, ?_, ?_⟩
  · have := h3 bs
    simp only [PyData.depth]
    omega
  · show costs (bs.map PyData.bool) + 2 ≤ _
    rw [h2]
    omega
end Vx
namespace Vx
open PySem PySem.Spec PyProof.Rows L2
open GxR (TabB GenS sh_eta)

def tabP (P : Addr) (h : Heap) : Prop := ∃ ps : Array Value, h.get? P = some { cls := .none, data := .fields ps } ∧ TriplesOk ps.toList
def tabX (P : Addr) : HO := .ext (tabP P)
theorem tabX_ok {Pr : Program} {w : World} {H : Hp} {h : Heap} {P : Addr} (e : tabP P h) : ObjOk Pr w H h P (tabX P) := by
  obtain ⟨ps, e1, t1⟩ := e
  exact ⟨⟨ps, e1, t1⟩, ⟨_, e1⟩, fun h1 h2 ⟨qs, e2, t2⟩ k => ⟨qs, k _ e2, t2⟩⟩
section
variable {X : Cx} {pins : List (Addr × Obj)} {σ : L2.St} {H : Hp} {s : Shared}
theorem inv_tab1 {P : Addr} (I : Inv X pins σ H s) (hP : H P = some (tabX P)) : tabP P s.heap := (I.hok P _ hP).1
theorem inv_tabX {P : Addr} {h' : Heap} {g' : Array GenState} {d' : Drawn} {t' : Nat} (I : Inv X pins σ H s) (hP : H P = some (tabX P)) (k : ∀ b o, b ≠ P → s.heap.get? b = some o → h'.get? b = some o)
    (hm : tabP P h') (hg : AllBare g') : Inv X pins σ H { s with heap := h', gens := g', drawn := d', toks := t' } := by
  have nP : ∀ b u, H b = some u → (u ≠ tabX P) → b ≠ P := fun b u e q z => by
    rw [z, hP] at e
    exact q (Option.some.inj e).symm
  have nN : ∀ b, H b = none → b ≠ P := fun b e z => by
    rw [z, hP] at e
    cases e
  refine I.step (g' := g') (d' := d') (ch := []) (fun b hb => absurd hb (by simp)) (fun b o _ _ _ e n => k b o (nN b n) e) (fun b o _ _ _ e n => ⟨o.slots, k b o (nN b n) e⟩)
    (fun b o _ e n => n) (fun b o _ e => ?_) (fun b xs e => e) (fun b o u e => e) (fun b qs e => ⟨#[], by rw [e]; simp⟩) (fun m hn => ?_) (fun b u e => ?_) hg
  · by_cases hb : b = P
    · obtain ⟨ps, q, _⟩ := hm
      rw [hb]
      exact ⟨_, q⟩
    · exact ⟨o, k b o hb e⟩
  · obtain ⟨ob, es, ep, ho, r⟩ := hn
    exact ⟨ob, es, ep, k _ ob (nN _ I.free) ho, r⟩
  · by_cases hb2 : b = P
    · rw [hb2] at e ⊢
      rw [hP] at e
      cases e
      exact tabX_ok hm
    · refine (I.hok b u e).stay (fun d v hd q => k d v ?_ q) (fun d q => q) fun d xs q => q
      rcases hd with z | z
      · rw [z]
        exact hb2
      · exact nP d _ z (fun q => by cases q)

/-- the element, at each item of the tuple -/
def EltT (X : Cx) (P : Addr) (scope : Scope) (x : Str) (elt : Expr) (s1 : Shared) (its : List Value) (bs : List Bool) : Prop :=
  ∀ (cenv : Env) (A' : Around) (E' : Value → Shared → Prop) (j : Nat) (u : Value) (b : Bool) (s₂ : Shared) (m₂ : Str → Option Value), cenv.scope = scope → cenv.globals = mainGlobals → cenv.builtins = builtinsNs →
    A'.handled = none → A'.depth ≤ X.A.depth + 1 → A'.units ≤ X.A.units + 8 → (∀ b o, b ≠ P → s1.heap.get? b = some o → s₂.heap.get? b = some o) →
    its[j]? = some u → bs[j]? = some b → s₂.heap.Ns cenv.locals m₂ → m₂ x = some u → wpAny (model X.prog X.w) A' (eval elt cenv) (fun y s₃ => y = .bool b ∧ Keeps s₂ s₃) E' s₂

def trB (bs : List Bool) (j : Nat) : Bool := match bs[j]? with | some b => b | none => false
theorem trB_some {bs : List Bool} {j : Nat} {b : Bool} (h : bs[j]? = some b) : trB bs j = b := by
  unfold trB
  rw [h]
theorem all_trB (bs : List Bool) : (List.range bs.length).all (trB bs) = bs.all id := by
  rw [Bool.eq_iff_iff, List.all_eq_true, List.all_eq_true]
  constructor
  · intro h b hb
    obtain ⟨j, hj, e⟩ := List.getElem_of_mem hb
    have q := h j (List.mem_range.mpr hj)
    rw [trB_some (List.getElem?_eq_getElem hj), e] at q
    exact q
  · intro h j hj
    have hj' := List.mem_range.mp hj
    rw [trB_some (List.getElem?_eq_getElem hj')]
    exact h _ (List.getElem_mem hj')

/-- the generator g, ready to be walked -/
def ReadyT (X : Cx) (pins : List (Addr × Obj)) (σ : L2.St) (H1 : Hp) (bs : List Bool) (g : Addr) (s5 : Shared) : Prop :=
  ∃ (fp wr : List Addr) (G : Array GenState → Array GenState → Prop) (F : Nat → Value → Prop) (St : Nat → Shared → Prop),
    WalksS X.prog X.w X.A.in1 g fp wr G bs.length F St ∧ St 0 s5 ∧
    TruthOf X.prog X.w X.A.in1 F (trB bs) ∧
    ∀ s', Moved wr G s5 s' → Inv X pins σ H1 s'

theorem gen_tup {c P : Addr} {elt iter : Expr} {x : Str} {px gpos : Pos} {scope : Scope} {te : TE} {k : Nat} {Q' : Value → Shared → Prop} {R : Hp → List Bool → Prop} {EH : Hp → List V → List Bool → Prop}
    (hr : Room k X.A) (TB : TabB X.base X.mg c P) (hcode : X.env.code = .ref c) (S : GenS X.env scope x) (hi : PE X iter te)
    (hel : ∀ (H1 : Hp) (s1 : Shared) (xs : List V) (its : List Value) (bs : List Bool), Inv X pins σ H1 s1 → Vals xs its → EH H1 xs bs → EltT X P scope x elt s1 its bs)
    (hs : ∀ v, genFold iter X.env v = pure v) (I : Inv X pins σ H s)
    (h : te σ H fun v H1 => ∃ (a : Addr) (xs : List V) (bs : List Bool), v = .ref a ∧ SqT X.K H1 a xs ∧ H1 P = some (tabX P) ∧ bs.length = xs.length ∧ EH H1 xs bs ∧ R H1 bs)
    (hQ : ∀ H1 bs g s5, R H1 bs → ReadyT X pins σ H1 bs g s5 → Q' (.ref g) s5) :
    wpAny (model X.prog X.w) X.A (eval (.GeneratorExp elt [⟨.Name x px, iter, [], 0⟩] scope gpos) X.env) Q' X.xe s := by
  refine wpAny_GeneratorExp_walksQD hr.hd S.co (closure_ok S.free) S.cell S.dot S.loc S.kind (by have := hr.dp; omega) ?_ hs
  refine thn (hi.run pins s σ H _ I h) fun xv s1 ⟨v, H1, I1, r1, q1⟩ => ?_
  obtain ⟨a, xs, bs, rfl, hsq, hP, hlen, hEH, q1⟩ := q1
  cases r1
  obtain ⟨its, rv, pT, _⟩ := I1.tuple hsq
  have EL := hel H1 s1 xs its bs I1 rv hEH
  have hbl : bs.length = its.length := hlen.trans rv.length
  refine wpAny_pyIter_tuple pT ?_
  generalize ho : ({ cls := .type "tuple_iterator", data := .fields #[.ref a, .int 0 0] } : Obj) = o
  obtain ⟨ps, hPs, ht⟩ := inv_tab1 I1 hP
  have hPlt : P < s1.heap.objs.size := Heap.lt_size hPs
  have hP2 : (s1.heap.push o).get? P = some { cls := .none, data := .fields ps } := Heap.get?_push_of_some _ hPs
  have cd : PySem.W.CodeHd (s1.heap.push o) c P := TB.code.keeps fun b u e => Heap.get?_push_of_some _ (I1.bk b u e)
  have lim2 : (s1.heap.push o).NoLimit := I1.nolimit.push o
  have alt : a < s1.heap.objs.size := by
    obtain ⟨o', ho', _⟩ := pT
    exact Heap.lt_size ho'
  have naP : a ≠ P := fun z => by
    obtain ⟨o', ho', hc', n, hd'⟩ := pT
    rw [z, hPs] at ho'
    cases ho'
    cases hd'
  have cont : ∀ (code : Value) (h3 : Heap) (tk : Nat) (ps' : Array Value), Heap.ExtBut P (s1.heap.push o) h3 → (s1.heap.push o).objs.size ≤ h3.objs.size → h3.get? P = some { cls := .none, data := .fields ps' } → TriplesOk ps'.toList →
      wpAny (model X.prog X.w) X.A (builtinsFor X.env.globals X.env.builtins) (fun bi s₄ =>
        ∃ Ia fp wr n₀ Pf St₀ pz F, Value.ref s1.heap.objs.size = .ref Ia ∧ (∀ A' : Around, A'.handled = none → Walks X.prog X.w A' Ia fp wr n₀ Pf St₀) ∧ St₀ 0 s₄.heap ∧ (∀ b ∈ fp, b < s₄.heap.objs.size) ∧ s₄.heap.NoLimit ∧ cStatics ∉ wr ∧
          (∀ href : Heap, (∀ b o, s₄.heap.get? b = some o → href.get? b = some o) →
            QuietGenD X.prog X.w (genEnv scope (cloFrom X.env.cells scope.names []) s₄.heap.objs.size code bi X.env) x [] elt (List.range s₄.heap.objs.size) wr Pf pz F href (X.A.depth + 1) (X.A.units + 8)) ∧
          (∀ a h₅ tk gs, gs.bare = true → s₄.heap.objs.size < a → h₅.objs.size = a + 1 → (∀ b o, s₄.heap.get? b = some o → h₅.get? b = some o) →
            WalksS X.prog X.w X.A.in4 a (a :: s₄.heap.objs.size :: List.range s₄.heap.objs.size) (s₄.heap.objs.size :: wr) (GenOnlyQ s₄.gens.size) (passing pz n₀ 0).length
              (fun j y => ∃ i, (passing pz n₀ 0)[j]? = some i ∧ F i y) (GenAt X.prog X.w X.A.in4 a s₄.gens.size s₄.heap.objs.size (List.range s₄.heap.objs.size) wr pz n₀ F) →
            GenAt X.prog X.w X.A.in4 a s₄.gens.size s₄.heap.objs.size (List.range s₄.heap.objs.size) wr pz n₀ F 0 { s₄ with gens := s₄.gens.push gs, toks := tk, heap := h₅ } →
            Q' (.ref a) { s₄ with gens := s₄.gens.push gs, toks := tk, heap := h₅ })) X.xe { s1 with heap := h3, toks := tk } := by
    intro code h3 tk ps' hx hsz hP3 ht3
    obtain ⟨bm, ob, e1, e2, e3, e4, e5, e6, e7, e8⟩ := TB.bm
    have hcP : cStatics ≠ P := fun e => by
      obtain ⟨_, hns, _⟩ := I1.nolimit
      obtain ⟨o', es, ep, ho, hd, _⟩ := hns
      rw [e, hPs] at ho
      cases ho
      cases hd
    have hcl : cStatics < s1.heap.objs.size := let ⟨_, hns, _⟩ := I1.nolimit; hns.lt
    have sz2 : (s1.heap.push o).objs.size = s1.heap.objs.size + 1 := Heap.size_push ..
    have keep3 : ∀ b u, b ≠ P → s1.heap.get? b = some u → h3.get? b = some u := fun b u hb e => hx b u hb (Heap.get?_push_of_some _ e)
    have it3 : h3.get? s1.heap.objs.size = some o := hx _ _ (fun z => Nat.ne_of_lt hPlt z.symm) (Heap.get?_push_size _ (by rw [← ho]; rfl))
    refine wpAny_builtinsFor (m := X.mg) (by rw [I1.ok.glob]; exact ((I1.mod.glob.keeps I1.bk).push o).extBut hx TB.gP) e1 e2 (keep3 _ _ e4 (I1.bk _ _ e5)) e6 e7 e8 ?_
    refine ⟨s1.heap.objs.size, [s1.heap.objs.size, a], [s1.heap.objs.size], its.toArray.size, (fun i v => its.toArray[i]? = some v), (fun i h => h.IsTupleIter s1.heap.objs.size a i ∧ h.IsTuple a its.toArray), (fun _ => true), (fun i y => ∃ b, bs[i]? = some b ∧ y = .bool b), rfl, fun A' hA => Walks.tuple hA _ _ (Nat.ne_of_lt alt) _, ?_, ?_, lim2.extBut hx hcP, ?_, ?_, ?_⟩
    · refine ⟨?_, ?_⟩
      · rw [← ho] at it3
        exact ⟨_, it3, rfl, rfl⟩
      · obtain ⟨o', ho', r'⟩ := pT
        exact ⟨o', keep3 _ _ naP ho', r'⟩
    · intro b hb
      have l1 : (s1.heap.objs.size : Nat) < h3.objs.size := by omega
      rcases List.mem_cons.mp hb with z | z
      · rw [z]
        exact l1
      · rcases List.mem_cons.mp z with z | z
        · rw [z]
          exact Nat.lt_trans alt l1
        · cases z
    · intro z
      rcases List.mem_cons.mp z with z | z
      · exact Nat.ne_of_lt hcl z
      · cases z
    · intro href hhref
      refine ⟨fun A' E' i v s₂ m₂ hA hd hu hPv hn hm hk => ?_, fun A' E' i v s₂ m₂ hA hd hu hPv hp hn hm hk => ?_⟩
      · simp only [List.forIn_nil]
        exact wpAny_pure ⟨rfl, GxR.keeps_refl _⟩
      · have hi : i < its.length := by
          obtain ⟨hlt, _⟩ := Array.getElem?_eq_some_iff.mp hPv
          simpa using hlt
        have e9 : its[i]? = some v := by simpa using hPv
        have e10 : bs[i]? = some bs[i] := List.getElem?_eq_getElem (by omega)
        refine wpAny_mono (EL _ A' E' i v bs[i] s₂ m₂ rfl I1.ok.glob rfl hA hd hu (fun b u hb e => ?_) e9 e10 hn hm) (fun y s3 r => ⟨⟨bs[i], e10, r.1⟩, r.2⟩) fun _ _ e => e
        have l4 := Heap.lt_size (keep3 b u hb e)
        refine hk b (List.mem_range.mpr l4) (fun z => ?_) u (hhref b u (keep3 b u hb e))
        rcases List.mem_cons.mp z with z | z
        · have := Heap.lt_size e
          rw [z] at this
          exact Nat.lt_irrefl _ this
        · cases z
    · intro g h5 tk5 gs hgb hag hsz5 hk5 W5 hat
      simp only [GxR.passing_true, List.length_range] at W5
      have ew : its.toArray.size = bs.length := by rw [List.size_toArray, hbl]
      rw [ew] at W5 hat
      refine hQ H1 bs g _ q1 ⟨_, _, _, _, _, W5.in4_1, hat, ?_, fun s' hm => ?_⟩
      · intro j y sj Qj Ej hy hQj
        obtain ⟨i, hij, b, hb, rfl⟩ := hy
        obtain ⟨hj, ej⟩ := List.getElem?_eq_some_iff.mp hij
        rw [List.getElem_range] at ej
        subst ej
        have hQ2 : Qj (trB bs j) sj := hQj
        rw [trB_some hb] at hQ2
        exact wpAny_truthy_bool hQ2
      · have nwr : ∀ b u, s1.heap.get? b = some u → b ∉ h3.objs.size :: [s1.heap.objs.size] := fun b u e hb => by
          have hl := Heap.lt_size e
          rcases List.mem_cons.mp hb with z | z
          · rw [z] at hl
            have h9 : (h3.objs.size : Nat) < s1.heap.objs.size := hl
            omega
          · rcases List.mem_cons.mp z with z | z
            · rw [z] at hl
              exact Nat.lt_irrefl _ hl
            · cases z
        have J := inv_tabX (h' := s'.heap) (g' := s'.gens) (d' := s'.drawn) (t' := s'.toks) I1 hP (fun b u hb e => hm.heap b u (nwr b u e) (hk5 b u (keep3 b u hb e)))
          ⟨ps', hm.heap P _ (nwr P _ hPs) (hk5 P _ hP3), ht3⟩ (AllBare.movedS (I1.bare.push hgb) hm)
        rw [sh_eta s1 s' hm.os] at J
        exact J
  refine ⟨lim2, ?_⟩
  cases hf : codeAmong gpos ps.toList with
  | none =>
    refine wpAny_genexprCodeX hcode (cd.code hP2 ht) (cd.tab hP2) hf fun c' h' tk hx hge hlt hco' _ htab' _ => ?_
    obtain ⟨o1, vs, f1, tf, fl, tg, inF, tx, tt, op, _, _, _, _, _, _, _, _, _, htr, _⟩ := hco'
    exact cont _ h' tk _ hx (Nat.le_trans hge (Nat.le_of_lt hlt)) htab'.2 htr
  | some cv =>
    refine wpAny_genexprCode_hit hcode (cd.code hP2 ht) hf ?_
    exact cont cv (s1.heap.push o) s1.toks ps (Heap.ExtBut.refl _ _) (Nat.le_refl _) hP2 ht

/-- all(test for x in e), e a tuple -/
def tAllT (K : PySem.W.Frag) (P : Addr) (EH : Hp → List V → List Bool → Prop) (te : TE) : TE := fun σ H Q => te σ H fun v H1 => ∃ (a : Addr) (xs : List V) (bs : List Bool), v = .ref a ∧ SqT K H1 a xs ∧ H1 P = some (tabX P) ∧ bs.length = xs.length ∧ EH H1 xs bs ∧ Q (.bl (bs.all id)) H1
theorem pe_allT {c P : Addr} {elt iter : Expr} {x : Str} {px p pos gpos : Pos} {scope : Scope} {te : TE} {k : Nat} {EH : Hp → List V → List Bool → Prop}
    (hr : Room k X.A) (hg : Gl X "all") (hm : X.mg "all" = none) (hb : bootBuiltins "all" = some (.builtin "all")) (TB : TabB X.base X.mg c P) (hcode : X.env.code = .ref c) (S : GenS X.env scope x) (hi : PE X iter te)
    (hel : ∀ (pins : List (Addr × Obj)) (σ : L2.St) (H1 : Hp) (s1 : Shared) (xs : List V) (its : List Value) (bs : List Bool), Inv X pins σ H1 s1 → Vals xs its → EH H1 xs bs → EltT X P scope x elt s1 its bs)
    (hs : ∀ v, genFold iter X.env v = pure v)
    (he : starEach [.GeneratorExp elt [⟨.Name x px, iter, [], 0⟩] scope gpos] X.env = (false, eval (.GeneratorExp elt [⟨.Name x px, iter, [], 0⟩] scope gpos) X.env) :: starEach [] X.env := by rfl) :
    PE X (.Call (.Name "all" p) [.GeneratorExp elt [⟨.Name x px, iter, [], 0⟩] scope gpos] [] pos) (tAllT X.K P EH te) := by
  refine ⟨fun pins s σ H Q I h => ?_⟩
  refine wpAny_Call_Name_kw (ld_blt I hg hm hb ?_)
  refine PyProof.Rows.callWith_builtin1 ?_ he (by rfl)
  rw [he]
  show wpAny _ _ (spliced ((false, eval (.GeneratorExp elt [⟨.Name x px, iter, [], 0⟩] scope gpos) X.env) :: backTo pos (starEach [] X.env))) _ _ s
  refine Calls.spliced_cons (gen_tup (R := fun H1 bs => Q (.bl (bs.all id)) H1) hr TB hcode S hi (hel pins σ) hs I h fun H1 bs g s5 hR hG => ?_)
  obtain ⟨fp, wr, G, F, St, W, hst, htr, hI⟩ := hG
  refine Calls.spliced_nil ?_
  refine call_all_walkS (W.self 0 _ _ _ hst ⟨g, fp, wr, G, _, F, St, _, rfl, W, hst, htr, fun s' hmv => ?_⟩)
  refine ⟨.bl _, H1, hI s' hmv, rfl, ?_⟩
  rw [all_trB]
  exact hR
end
end Vx
namespace Vx
open PySem PySem.Spec PyProof.Rows L2
open GxR (TabB)
theorem law_endT {P : Program} {w : World} {K : PySem.W.Frag} {mg mb : Str → Option Value} {k : Nat} {fa a : Addr} {cs : List (Addr × Addr)} {fd : FuncData} {x : Str} {sp : Sp}
    {s₁ : Shared} {vs : List Value} {ns : List Int} (KX : K.In s₁.heap) (hns : s₁.heap.Ns mainGlobals mg) (hb : s₁.heap.Ns builtinsNs mb)
    (hbb : ∀ x : Str, x ≠ "__name__" → mb x = bootBuiltins x) (lim : s₁.heap.NoLimit) (sy : Sys s₁.heap) (hg : s₁.gens = #[])
    (hT : ∀ p ∈ cs, s₁.heap.get? p.2 = some { cls := .none, data := .fields #[] }) (nT : ∀ p ∈ cs, K.lookup p.2 = none) (C : ∀ p ∈ cs, PySem.W.CodeHd s₁.heap p.1 p.2)
    (hbm : ∃ (bm : Addr) (ob : Obj), mg "__builtins__" = some (.ref bm) ∧ bm ≠ builtinsNs ∧ s₁.heap.get? bm = some ob ∧ ob.cls = .type "module" ∧ ob.dict = some builtinsNs ∧ ob.data = .plain)
    (ha : s₁.heap.get? a = some { cls := .type "list", data := .seq vs.toArray }) (hi : IntsAre vs ns) (hl : ns.length ≤ sizeLine) (hr : Room k callerA)
    (F : ∀ base : Heap, K.In base → base.Ns mainGlobals mg → Sys base → (∀ p ∈ cs, TabB base mg p.1 p.2) → FnG P w K mg base CX0 k fa fd [x] sp)
    (hbind : ∀ (s : Shared) (u : Value), BindsTo s fd ⟨[u], []⟩ [(x, u)])
    (hsp : ∀ H : Hp, (∀ p ∈ cs, H p.2 = some (tabX p.2)) → SqL K H a (ns.map V.int) → sp [.ref a] H (fun v H' => v = .bl true ∧ Same H H') fun _ _ _ => False) :
    codeAny (model P w) callerA (.call (.ref fa) ⟨[.ref a], []⟩)
      (fun r s' => r = .ok (.ret (.bool true)) ∧ OldK s₁.heap s'.heap ∧ s'.os = s₁.os ∧ AllBare s'.gens) s₁ := by
  have rv := vals_ints hi
  have lenV := hi.length
  have isT : ∀ b : Addr, b ∈ cs.map (·.2) → s₁.heap.get? b = some { cls := .none, data := .fields #[] } := fun b hb => by
    obtain ⟨p, hp, e⟩ := List.mem_map.mp hb
    rw [← e]
    exact hT p hp
  have aT : a ∉ cs.map (·.2) := fun z => by
    have q := isT a z
    rw [ha] at q
    have z' : Data.seq vs.toArray _ = Data.fields #[] := congrArg Obj.data (Option.some.inj q)
    cases z'
  have memT : ∀ p ∈ cs, p.2 ∈ cs.map (·.2) := fun p hp => List.mem_map.mpr ⟨p, hp, rfl⟩
  have trip0 : TriplesOk (#[] : Array Value).toList := by
    first
      | exact .nil
      | decide
      | simp [TriplesOk]
  have core : ∀ H : Hp, (∀ p ∈ cs, H p.2 = some (tabX p.2)) → (∀ b, H b = none ∨ b ∈ cs.map (·.2) ∨ ∃ o xs, H b = some (.frz o (.lst xs))) → SqL K H a (ns.map V.int) → HOk P w H s₁.heap → (∀ b, H b ≠ none → b = a ∨ b ∈ cs.map (·.2)) → (H a ≠ none → K.lookup a = none) →
      codeAny (model P w) callerA (.call (.ref fa) ⟨[.ref a], []⟩) (fun r s' => r = .ok (.ret (.bool true)) ∧ OldK s₁.heap s'.heap ∧ s'.os = s₁.os ∧ AllBare s'.gens) s₁ := by
    intro H hH hO hS hok hA hK
    have base_of : ∀ {b : Addr} {o : Obj}, s₁.heap.get? b = some o → H b = none → (hidT s₁.heap H).get? b = some o := fun e n => hidT_get e n
    have noD : ∀ {b : Addr} {o : Obj}, s₁.heap.get? b = some o → (∀ vs n, o.data ≠ .seq vs n) → o.data ≠ .fields #[] → H b = none := fun {b o} e h1 h2 => by
      cases q : H b with
      | none => rfl
      | some u =>
        rcases hA b (by rw [q]; simp) with e' | e'
        · rw [e', ha] at e
          cases e
          exact (h1 _ _ rfl).elim
        · rw [isT b e'] at e
          cases e
          exact (h2 rfl).elim
    have noA : ∀ {b : Addr} {o : Obj} {es : Array DictEntry} {ep : Nat}, s₁.heap.get? b = some o → o.data = .dict es ep → H b = none := fun {b o es ep} e d => by
      refine noD e (fun vs n z => ?_) fun z => ?_
      · rw [d] at z
        cases z
      · rw [d] at z
        cases z
    have nsK : ∀ {b : Addr} {m : Str → Option Value}, s₁.heap.Ns b m → (hidT s₁.heap H).Ns b m := fun {b m} ⟨o, es, ep, e, d, r⟩ => ⟨o, es, ep, base_of e (noA e d), d, r⟩
    have hKb : K.In (hidT s₁.heap H) := fun b o e => base_of (KX b o e) (by
      cases q : H b with
      | none => rfl
      | some u =>
        rcases hA b (by rw [q]; simp) with e' | e'
        · rw [e'] at e q
          rw [hK (by rw [q]; simp)] at e
          cases e
        · obtain ⟨p, hp, ep⟩ := List.mem_map.mp e'
          rw [← ep, nT p hp] at e
          cases e)
    have hM : L2.Mod K mg (hidT s₁.heap H) := ⟨hKb, nsK hns, ⟨mb, nsK hb, hbb⟩, let ⟨mc, h1, h2⟩ := lim; ⟨mc, nsK h1, h2⟩⟩
    have sB : Sys (hidT s₁.heap H) := by
      obtain ⟨⟨o, es, n, e, d⟩, ⟨mc, h1, h2⟩, sn⟩ := sy
      refine ⟨⟨o, es, n, hidT_get e (noA e d), d⟩, ⟨mc, nsK h1, h2⟩, noseer_hid sn nsK fun b o e2 hc => hidT_get e2 ?_⟩
      cases q : H b with
      | none => rfl
      | some u =>
        rcases hA b (by rw [q]; simp) with e' | e'
        · rw [e', ha] at e2
          cases e2
          exact absurd (Value.type.inj hc) (by decide)
        · rw [isT b e'] at e2
          cases e2
          cases hc
    have TB : ∀ p ∈ cs, TabB (hidT s₁.heap H) mg p.1 p.2 := fun p hp => by
      have hTp := hT p hp
      refine ⟨?_, ?_, fun z => ?_⟩
      · obtain ⟨o, us, file, tf, flags, tg, inF, text, tt, e1, r1, r2, r3, r4, r5, r6, r7, r8, hne⟩ := C p hp
        refine ⟨o, us, file, tf, flags, tg, inF, text, tt, base_of e1 (noD e1 (fun vs n z => ?_) fun z => ?_), r1, r2, r3, r4, r5, r6, r7, r8, hne⟩
        · rw [r2] at z
          cases z
        · rw [r2] at z
          cases z
          simp at r3
      · obtain ⟨bm, ob, b1, b2, b3, b4, b5, b6⟩ := hbm
        have nG : bm ≠ mainGlobals := fun q => by
          obtain ⟨o, es, ep, e, hd, _⟩ := hns
          rw [q, e] at b3
          cases b3
          rw [hd] at b6
          cases b6
        have nP : bm ≠ p.2 := fun q => by
          rw [q, hTp] at b3
          cases b3
          cases b6
        refine ⟨bm, ob, b1, b2, nG, nP, base_of b3 (noD b3 (fun vs n z => ?_) fun z => ?_), b4, b5, b6⟩
        · rw [b6] at z
          cases z
        · rw [b6] at z
          cases z
      · obtain ⟨o, es, ep, e, hd, _⟩ := hns
        rw [z, hTp] at e
        cases e
        cases hd
    have e0 : Env0 P w K mg (hidT s₁.heap H) callerA [] s₁ H := ⟨rfl, hM, fun b o e => of_hidT e, Nat.le_of_eq (hidT_size _ _), trivial, fun b hb => absurd (show b ∈ ([] : List Addr) from hb) (by simp), hok, .of_eq hg⟩
    refine codeAny_mono ((F _ hKb (nsK hns) sB TB).go callerA [] s₁ H ⟨[.ref a], []⟩ [.ref a] [.ref a] _ _ hr rfl e0 (hbind s₁ (.ref a)) (.cons rfl .nil) (hsp H hH hS)) fun r s' h => ?_
    cases r with
    | error e => exact h.elim
    | ok fl =>
      cases fl with
      | next => exact False.elim h
      | brk => exact False.elim h
      | cont => exact False.elim h
      | ret u =>
        obtain ⟨v, H', os, bare, un, hok', r', q⟩ := h
        obtain ⟨q', sH⟩ : v = .bl true ∧ Same H H' := q
        subst q'
        obtain rfl : u = Value.bool true := r'
        have key : ∀ b o, b ∉ cs.map (·.2) → s₁.heap.get? b = some o → s'.heap.get? b = some o := fun b o nb e => by
          cases q : H b with
          | none => exact un.keep b o e q (by intro z; exact absurd (show b ∈ ([] : List Addr) from z) (by simp)) (by simp)
          | some u =>
            rcases hO b with z | z | ⟨ob, xs, z⟩
            · rw [q] at z; cases z
            · exact absurd z nb
            · have z2 := un.frzs b ob _ z
              obtain ⟨e1, _⟩ := hok b _ z
              obtain ⟨e2, _⟩ := hok' b _ z2
              rw [e] at e1; cases e1
              exact e2
        have grown : ∀ p ∈ cs, ∃ more : Array Value, s'.heap.get? p.2 = some { cls := .none, data := .fields more } := fun p hp => by
          obtain ⟨⟨more, z, _⟩, _⟩ := hok' p.2 _ (sH _ _ (hH p hp))
          exact ⟨_, z⟩
        refine ⟨rfl, ⟨fun b o e => ?_, fun b o e => ?_⟩, os, bare⟩
        · by_cases hb : b ∈ cs.map (·.2)
          · obtain ⟨p, hp, ep⟩ := List.mem_map.mp hb
            obtain ⟨more, hm⟩ := grown p hp
            rw [← ep] at e ⊢
            rw [hT p hp] at e
            cases e
            exact .inr (.inl ⟨((C p hp).tab (hT p hp)).isCodeTable, rfl, #[], more, rfl, by rw [Array.empty_append]; exact hm⟩)
          · exact .inl (key b o hb e)
        · by_cases hb : b ∈ cs.map (·.2)
          · obtain ⟨p, hp, ep⟩ := List.mem_map.mp hb
            obtain ⟨more, hm⟩ := grown p hp
            rw [← ep]
            exact ⟨_, hm⟩
          · exact ⟨o, key b o hb e⟩
  have tok : ∀ b, b ∈ cs.map (·.2) → ∀ H : Hp, ObjOk P w H s₁.heap b (tabX b) := fun b hb H => tabX_ok ⟨#[], isT b hb, trip0⟩
  cases hk : K.lookup a with
  | some o =>
    have e := KX a o hk
    rw [ha] at e
    cases e
    refine core (fun b => if b ∈ cs.map (·.2) then some (tabX b) else none) (fun p hp => if_pos (memT p hp)) (fun b => ?_) (.inr ⟨_, vs.toArray, _, hk, rfl, rfl, rfl, by rw [List.size_toArray, lenV]; exact hl, by simpa using rv⟩) (fun b u z => ?_) (fun b z => ?_) fun z => absurd (show (if a ∈ cs.map (·.2) then some (tabX a) else none) = none from if_neg aT) z
    · by_cases hb : b ∈ cs.map (·.2)
      · exact .inr (.inl hb)
      · exact .inl (if_neg hb)
    · by_cases hb : b ∈ cs.map (·.2)
      · have z' := (if_pos hb).symm.trans z
        cases z'
        exact tok b hb _
      · have z' := (if_neg hb).symm.trans z
        cases z'
    · by_cases hb : b ∈ cs.map (·.2)
      · exact .inr hb
      · exact absurd (if_neg hb) z
  | none =>
    refine core (fun b => if b = a then some (.frz { cls := .type "list", data := .seq vs.toArray } (.lst (ns.map V.int))) else if b ∈ cs.map (·.2) then some (tabX b) else none) (fun p hp => (if_neg (show ¬ p.2 = a from fun z => aT (by rw [← z]; exact memT p hp))).trans (if_pos (memT p hp))) (fun b => ?_)
      (.inl (.inr ⟨{ cls := .type "list", data := .seq vs.toArray }, if_pos rfl⟩)) (fun b u z => ?_) (fun b z => ?_) fun _ => hk
    · by_cases hb : b = a
      · exact .inr (.inr ⟨_, _, if_pos hb⟩)
      · by_cases hb2 : b ∈ cs.map (·.2)
        · exact .inr (.inl hb2)
        · exact .inl ((if_neg hb).trans (if_neg hb2))
    · by_cases hb : b = a
      · have z' := (if_pos hb).symm.trans z
        cases z'
        rw [hb]
        exact ⟨ha, by rw [List.length_map]; exact hl, vs, _, rv, ha⟩
      · have z1 := (if_neg hb).symm.trans z
        by_cases hb2 : b ∈ cs.map (·.2)
        · have z' := (if_pos hb2).symm.trans z1
          cases z'
          exact tok b hb2 _
        · have z' := (if_neg hb2).symm.trans z1
          cases z'
    · by_cases hb : b = a
      · exact .inl hb
      · by_cases hb2 : b ∈ cs.map (·.2)
        · exact .inr hb2
        · exact absurd ((if_neg hb).trans (if_neg hb2)) z

/-- the def x of the text, whose code object stands at c, its table at P -/
structure FunC (K : PySem.W.Frag) (mg : Str → Option Value) (x : Str) (st : Stmt) (c P : Addr) : Prop where
  ex : ∃ (f : Addr) (oc : Value) (od : Option Addr) (kV doc pm : Value) (an : Option Addr) (ct : Value) (osl : Array (Option Value)),
    K.lookup f = some ⟨oc, od, .func (PySem.W.fnOf x x (defArgs st) (defBody st) (defScope st) .none kV doc pm an (.ref c) ct), osl⟩ ∧ PySem.W.codeIn K (.ref c) x = true ∧ PySem.W.keepIn K (.ref f) = true ∧ mg x = some (.ref f)

/-- what the head tells of the law's own table of one def y -/
theorem walk_gt {l : PySem.W.OpenLaw} {n k : Nat} {q : Program} {loose : List Str} {XP : (Str → Option Value) → Heap → Prop} {YP : World → Heap → Prop}
    {d : DefRec} {K : Params → PySem.W.Frag} {sp : World → Sp} {x y : Str} {st : Stmt} (hn : l.most = some n) (hn2 : n ≤ sizeLine) (hdf : d.params.defaults = [])
    (hr : Room k callerA) (him : importsNone q = true) (hrec : ((recsOf q).any fun e => e.name == y) = true) (hY : ∀ (w : World) (h : Heap), YP w h → (K w.params).In h)
    (F : ∀ (w : World) (mg : Str → Option Value) (fa : Addr) (h : Heap), (K w.params).In h → h.Ns mainGlobals mg → mg d.name = some (.ref fa) →
      (∀ c P : Addr, PySem.W.tabIn (K w.params) y = some (c, P) → PySem.W.CodeHd h c P ∧ h.get? P = some { cls := .none, data := .fields #[] }) →
      ∃ (fd : FuncData) (c P : Addr), PySem.W.tabIn (K w.params) y = some (c, P) ∧ (K w.params).lookup P = none ∧ (∀ (s : Shared) (u : Value), BindsTo s fd ⟨[u], []⟩ [(x, u)]) ∧
        (∀ base : Heap, (K w.params).In base → base.Ns mainGlobals mg → Sys base → TabB base mg c P → FnG l.prog w (K w.params) mg base CX0 k fa fd [x] (sp w)) ∧
        ∀ (H : Hp) (a : Addr) (ns : List Int), ns.length ≤ n → H P = some (tabX P) → SqL (K w.params) H a (ns.map V.int) →
          sp w [.ref a] H (fun v H' => v = .bl true ∧ Same H H') fun _ _ _ => False) :
    PySem.W.WalkO q loose XP YP l.row.toRowW d [] (fun f vs => PySem.call f vs) := by
  refine Att.attach_call hn hdf ?_
  intro w s₀ s₁ mg mb fa o pm cd doc a vs ns G Y ho hd hcd hmg hobj hints hlen hg
  have KX := hY w _ Y
  have tb : ∀ c P : Addr, PySem.W.tabIn (K w.params) y = some (c, P) → PySem.W.CodeHd s₁.heap c P ∧ s₁.heap.get? P = some { cls := .none, data := .fields #[] } := by
    intro c P hcP
    cases hf : (recsOf q).find? (fun e => e.name == y) with
    | none =>
      obtain ⟨dL, hm, hn1⟩ := List.any_eq_true.mp hrec
      exact absurd hn1 (by simpa using (List.find?_eq_none.mp hf) dL hm)
    | some dd => exact PySem.W.tab_of G.T KX hf hcP
  obtain ⟨fd, c, P, hcP, hPn, hb, hF, hsp⟩ := F w mg fa _ KX G.T.g hmg tb
  obtain ⟨hC, hP⟩ := tb c P hcP
  refine law_endT (cs := [(c, P)]) KX G.T.g G.T.b G.T.builtins G.T.nolimit (sys_of (G.T.seer him) G.T.nolimit) hg (fun p hp => ?_) (fun p hp => ?_) (fun p hp => ?_) G.T.bmain hobj hints (Nat.le_trans hlen hn2) hr
    (fun base h1 h2 h3 h4 => hF base h1 h2 h3 (h4 (c, P) (List.mem_singleton.mpr rfl))) hb fun H hH hS => hsp H a ns hlen (hH (c, P) (List.mem_singleton.mpr rfl)) hS
  · obtain rfl := List.mem_singleton.mp hp
    exact hP
  · obtain rfl := List.mem_singleton.mp hp
    exact hPn
  · obtain rfl := List.mem_singleton.mp hp
    exact hC
end Vx
namespace Vx
open PySem PySem.Spec PyProof.Rows L2
section
variable {M : Model} {A : Around} {E : Value → Shared → Prop} {s : Shared} {Q : Value → Shared → Prop} {name : Str} {scope : Scope} {L a : Addr} {cd : Value} {pos : Pos} {x : Str} {mg mb m : Str → Option Value} {v : Value}
theorem lw_loc (hn : s.heap.Ns L m) (hv : m x = some v) (h : Q v s)
    (hk : scope.kind = .function := by rfl) (hl : (envOfC name scope L a cd).kindOf x = some .local := by rfl) (hd : (x == ("__debug__" : Str)) = false := by decide) :
    wpAny M A (eval (.Name x pos) (envOfC name scope L a cd)) Q E s := wpAny_Name (wpAny_loadName_local hk hl hn hv h) hd
theorem lw_glob (hg : s.heap.Ns mainGlobals mg) (hv : mg x = some v) (h : Q v s)
    (hk : scope.kind = .function := by rfl) (hl : (envOfC name scope L a cd).kindOf x = some .globalImplicit := by rfl) (hd : (x == ("__debug__" : Str)) = false := by decide) :
    wpAny M A (eval (.Name x pos) (envOfC name scope L a cd)) Q E s := Calls.Name_function_global hk hl (Calls.loadGlobal_global hg hv h) hd
theorem lw_blt (hg : s.heap.Ns mainGlobals mg) (hm : mg x = none) (hb : ∃ mb, s.heap.Ns builtinsNs mb ∧ ∀ x : Str, x ≠ "__name__" → mb x = bootBuiltins x) (hv : bootBuiltins x = some v) (h : Q v s) (hne : x ≠ "__name__" := by decide)
    (hk : scope.kind = .function := by rfl) (hl : (envOfC name scope L a cd).kindOf x = some .globalImplicit := by rfl) (hd : (x == ("__debug__" : Str)) = false := by decide) :
    wpAny M A (eval (.Name x pos) (envOfC name scope L a cd)) Q E s := by
  obtain ⟨mb, h1, h2⟩ := hb
  exact Calls.Name_function_global hk hl (Calls.loadGlobal_builtin hg hm h1 (by rw [h2 x hne]; exact hv) h) hd
end
/-- what a def's frame at L holds, over the heap at its entry -/
structure Lw (h0 : Heap) (L : Addr) (m : Str → Option Value) (h : Heap) : Prop where
  old : ∀ b o, h0.get? b = some o → h.get? b = some o
  ns : h.Ns L m
theorem mod_keeps {K : PySem.W.Frag} {mg : Str → Option Value} {h h' : Heap} (m : L2.Mod K mg h) (k : ∀ b o, h.get? b = some o → h'.get? b = some o) : L2.Mod K mg h' := by
  obtain ⟨a, b, ⟨mb, c1, c2⟩, d⟩ := m
  exact ⟨a.keeps k, b.keeps k, ⟨mb, c1.keeps k, c2⟩, d.keeps k⟩
/-- the same but for one address where no part of it stands -/
theorem mod_but {K : PySem.W.Frag} {mg : Str → Option Value} {h h' : Heap} {P : Addr} {ps : Array Value} (m : L2.Mod K mg h) (hP : K.lookup P = none) (hT : h.get? P = some { cls := .none, data := .fields ps })
    (k : ∀ b o, b ≠ P → h.get? b = some o → h'.get? b = some o) : L2.Mod K mg h' := by
  obtain ⟨a, b, ⟨mb, c1, c2⟩, ⟨mc, d1, d2⟩⟩ := m
  have ns : ∀ {b : Addr} {m : Str → Option Value}, h.Ns b m → h'.Ns b m := fun {b m} ⟨o, es, ep, e, d, r⟩ => ⟨o, es, ep, k _ _ (fun z => by
    rw [z, hT] at e
    cases e
    cases d) e, d, r⟩
  exact ⟨fun b o e => k b o (fun z => by rw [z, hP] at e; cases e) (a b o e), ns b, ⟨mb, ns c1, c2⟩, ⟨mc, ns d1, d2⟩⟩
end Vx
namespace Vx
open PySem PySem.Spec PyProof.Rows L2
def top (i : Nat) : Stmt := PySem.Challenge.pw_allhelms_k03_whole_quotients_and_rests.main.body.getD i (.Pass ⟨0, 0, 0, 0⟩)
abbrev s_is_whole : Stmt := top 6
abbrev s_is_fraction : Stmt := top 7
abbrev s_ratio : Stmt := top 8
abbrev s_ratio_sum : Stmt := top 9
abbrev s_ratio_less : Stmt := top 10
abbrev s_without_end : Stmt := top 12
abbrev s_trimmed : Stmt := top 13
abbrev s_cleared : Stmt := top 14
abbrev s_row_over : Stmt := top 15
abbrev s_padded : Stmt := top 16
abbrev s_plus : Stmt := top 17
abbrev s_minus : Stmt := top 18
abbrev s_whole_product : Stmt := top 19
abbrev s_times : Stmt := top 20
abbrev s_whole_split : Stmt := top 21
abbrev s_split_row : Stmt := top 22
abbrev s_is_row : Stmt := top 24
abbrev s_is_filled_row : Stmt := top 25
abbrev s_check_row : Stmt := top 26
abbrev s_check_filled_row : Stmt := top 27
abbrev s_row_sum : Stmt := top 28
abbrev s_row_less : Stmt := top 29
abbrev s_row_product : Stmt := top 30
abbrev s_parted : Stmt := top 31
abbrev s_divides : Stmt := top 32
abbrev s__law_reel : Stmt := top 34
abbrev s__law_pull : Stmt := top 35
abbrev s__law_lowest : Stmt := top 36
abbrev s__law_plus : Stmt := top 37
abbrev s__law_times : Stmt := top 38
abbrev s__law_part : Stmt := top 39
abbrev s__law_some : Stmt := top 40
abbrev s__law_trim : Stmt := top 41
abbrev s__law_at : Stmt := top 42
abbrev s__law_sum : Stmt := top 43
abbrev s__law_product : Stmt := top 44
abbrev s__law_drawn : Stmt := top 45
abbrev s__law_is_whole : Stmt := top 46
abbrev s__law_is_fraction : Stmt := top 47
abbrev s__law_is_row : Stmt := top 48
abbrev s__law_divisor_row : Stmt := top 49
abbrev s__law_right : Stmt := top 50
abbrev s_law : Stmt := top 51
end Vx
namespace Vx
/-! ### n / m in lowest terms -/
theorem fr_self (q : Rat) : Rat.divInt q.num q.den = q := Rat.num_divInt_den q
theorem fr_add (a b : Rat) : Rat.divInt (a.num * b.den + b.num * a.den) (a.den * b.den) = a + b := by
  have h1 : (a.den : Int) ≠ 0 := by have := a.den_nz; omega
  have h2 : (b.den : Int) ≠ 0 := by have := b.den_nz; omega
  rw [← Rat.divInt_add_divInt _ _ h1 h2, fr_self, fr_self]
theorem fr_sub (a b : Rat) : Rat.divInt (a.num * b.den - b.num * a.den) (a.den * b.den) = a - b := by
  have h1 : (a.den : Int) ≠ 0 := by have := a.den_nz; omega
  have h2 : (b.den : Int) ≠ 0 := by have := b.den_nz; omega
  rw [← Rat.divInt_sub_divInt _ _ h1 h2, fr_self, fr_self]
theorem fr_mul (a b : Rat) : Rat.divInt (a.num * b.num) (a.den * b.den) = a * b := by
  rw [← Rat.divInt_mul_divInt, fr_self, fr_self]
theorem fr_div (a b : Rat) : Rat.divInt (a.num * b.den) (a.den * b.num) = a / b := by
  rw [Rat.divInt_eq_div]
  conv => rhs; rw [← fr_self a, ← fr_self b, Rat.divInt_eq_div, Rat.divInt_eq_div]
  have h1 : ((a.den : Int) : Rat) ≠ 0 := by have := a.den_nz; exact_mod_cast this
  have h2 : ((b.den : Int) : Rat) ≠ 0 := by have := b.den_nz; exact_mod_cast this
  push_cast
  by_cases h : (b.num : Rat) = 0
  · rw [h]; grind
  · grind
/-- what ratio and _law_lowest reckon -/
theorem fr_pos {n m : Int} (hm : 0 < m) : n / ((n.natAbs.gcd m.natAbs : Nat) : Int) = (Rat.divInt n m).num ∧ m / ((n.natAbs.gcd m.natAbs : Nat) : Int) = ((Rat.divInt n m).den : Int) := by
  have hs : m.sign = 1 := Int.sign_eq_one_of_pos hm
  have hg : m.gcd n = n.natAbs.gcd m.natAbs := by rw [Int.gcd_comm]; rfl
  constructor
  · rw [Rat.num_divInt, hs, Int.one_mul, hg]
  · rw [Rat.den_divInt, if_neg (by omega), hg, Int.natCast_ediv]
    have : ((m.natAbs : Nat) : Int) = m := Int.natAbs_of_nonneg (by omega)
    rw [this]
theorem fr_neg {n m : Int} (hm : m < 0) : (n.fdiv (-((n.natAbs.gcd m.natAbs : Nat) : Int)) = (Rat.divInt n m).num) ∧ m.fdiv (-((n.natAbs.gcd m.natAbs : Nat) : Int)) = ((Rat.divInt n m).den : Int) := by
  have hs : m.sign = -1 := Int.sign_eq_neg_one_of_neg hm
  have hg : m.gcd n = n.natAbs.gcd m.natAbs := by rw [Int.gcd_comm]; rfl
  have d1 : ((n.natAbs.gcd m.natAbs : Nat) : Int) ∣ n := by
    have := Int.gcd_dvd_left n m
    exact this
  have d2 : ((n.natAbs.gcd m.natAbs : Nat) : Int) ∣ m := by
    have := Int.gcd_dvd_right n m
    exact this
  generalize hG : n.natAbs.gcd m.natAbs = g at *
  have hg0 : 0 < g := by
    rw [← hG]
    exact Nat.gcd_pos_of_pos_right _ (by omega)
  obtain ⟨n', rfl⟩ := d1
  obtain ⟨m', rfl⟩ := d2
  have hgi : (g : Int) ≠ 0 := by omega
  have e1 : ((g : Int) * n').fdiv (-(g : Int)) = -n' := by
    rw [show (g : Int) * n' = (-(g : Int)) * (-n') by grind, Int.mul_fdiv_cancel_left _ (by omega)]
  have e2 : ((g : Int) * m').fdiv (-(g : Int)) = -m' := by
    rw [show (g : Int) * m' = (-(g : Int)) * (-m') by grind, Int.mul_fdiv_cancel_left _ (by omega)]
  have hm' : m' < 0 := by
    by_cases h : m' < 0
    · exact h
    · have : 0 ≤ (g : Int) * m' := Int.mul_nonneg (by omega) (by omega)
      omega
  constructor
  · rw [e1, Rat.num_divInt, hs, hg]
    rw [show (-1 : Int) * ((g : Int) * n') = (g : Int) * (-n') by grind, Int.mul_ediv_cancel_left _ hgi]
  · rw [e2, Rat.den_divInt, if_neg (by omega), hg]
    have e3 : ((g : Int) * m').natAbs = g * m'.natAbs := by rw [Int.natAbs_mul]; simp
    rw [e3, Nat.mul_div_cancel_left _ hg0]
    omega
theorem fr_pos_f {n m : Int} (hm : 0 < m) : (n.fdiv ((n.natAbs.gcd m.natAbs : Nat) : Int) = (Rat.divInt n m).num) ∧ m.fdiv ((n.natAbs.gcd m.natAbs : Nat) : Int) = ((Rat.divInt n m).den : Int) := by
  obtain ⟨a, b⟩ := fr_pos (n := n) hm
  rw [← a, ← b, Int.fdiv_eq_ediv_of_nonneg _ (by omega), Int.fdiv_eq_ediv_of_nonneg _ (by omega)]
  exact ⟨rfl, rfl⟩
/-! ### sizes -/
def Qz (b : Nat) (q : Rat) : Prop := q.num.natAbs < 2 ^ b ∧ q.den < 2 ^ b
theorem Qz.mono {b c : Nat} {q : Rat} (h : Qz b q) (le : b ≤ c) : Qz c q :=
  ⟨Nat.lt_of_lt_of_le h.1 (Nat.pow_le_pow_right (by decide) le), Nat.lt_of_lt_of_le h.2 (Nat.pow_le_pow_right (by decide) le)⟩
theorem qz_div {n m : Int} {b : Nat} (h1 : n.natAbs < 2 ^ b) (h2 : m.natAbs < 2 ^ b) (h0 : m ≠ 0) : Qz b (Rat.divInt n m) := by
  constructor
  · rw [Rat.num_divInt]
    refine Nat.lt_of_le_of_lt ?_ h1
    have : (m.sign * n / (m.gcd n : Int)).natAbs ≤ (m.sign * n).natAbs := Int.natAbs_ediv_le_natAbs _ _
    rw [Int.natAbs_mul] at this
    have hs : m.sign.natAbs ≤ 1 := by
      rcases Int.lt_trichotomy m 0 with h | h | h
      · rw [Int.sign_eq_neg_one_of_neg h]; decide
      · omega
      · rw [Int.sign_eq_one_of_pos h]; decide
    calc _ ≤ m.sign.natAbs * n.natAbs := this
      _ ≤ 1 * n.natAbs := Nat.mul_le_mul_right _ hs
      _ = n.natAbs := Nat.one_mul _
  · rw [Rat.den_divInt, if_neg h0]
    exact Nat.lt_of_le_of_lt (Nat.div_le_self _ _) h2
theorem bz_mul {i j : Int} {a b : Nat} (ha : i.natAbs < 2 ^ a) (hb : j.natAbs < 2 ^ b) : (i * j).natAbs < 2 ^ (a + b) := by
  rw [Int.natAbs_mul, Nat.pow_add]
  exact Nat.mul_lt_mul'' ha hb
theorem bz_add {i j : Int} {a : Nat} (ha : i.natAbs < 2 ^ a) (hb : j.natAbs < 2 ^ a) : (i + j).natAbs < 2 ^ (a + 1) := by
  rw [Nat.pow_succ]
  omega
theorem bz_sub {i j : Int} {a : Nat} (ha : i.natAbs < 2 ^ a) (hb : j.natAbs < 2 ^ a) : (i - j).natAbs < 2 ^ (a + 1) := by
  rw [Nat.pow_succ]
  omega
theorem bz_mono {i : Int} {a b : Nat} (ha : i.natAbs < 2 ^ a) (h : a ≤ b) : i.natAbs < 2 ^ b := Nat.lt_of_lt_of_le ha (Nat.pow_le_pow_right (by decide) h)
theorem Qz.d {b : Nat} {q : Rat} (h : Qz b q) : ((q.den : Nat) : Int).natAbs < 2 ^ b := h.2
theorem Qz.add {a b : Nat} {x y : Rat} (hx : Qz a x) (hy : Qz b y) : Qz (a + b + 1) (x + y) := by
  rw [← fr_add]
  refine qz_div (bz_add (bz_mul hx.1 hy.d) (by rw [Nat.add_comm]; exact bz_mul hy.1 hx.d)) (bz_mono (bz_mul hx.d hy.d) (Nat.le_succ _)) ?_
  have h1 := x.den_nz
  have h2 := y.den_nz
  exact Int.mul_ne_zero (by omega) (by omega)
theorem Qz.sub {a b : Nat} {x y : Rat} (hx : Qz a x) (hy : Qz b y) : Qz (a + b + 1) (x - y) := by
  rw [← fr_sub]
  refine qz_div (bz_sub (bz_mul hx.1 hy.d) (by rw [Nat.add_comm]; exact bz_mul hy.1 hx.d)) (bz_mono (bz_mul hx.d hy.d) (Nat.le_succ _)) ?_
  have h1 := x.den_nz
  have h2 := y.den_nz
  exact Int.mul_ne_zero (by omega) (by omega)
theorem Qz.mul {a b : Nat} {x y : Rat} (hx : Qz a x) (hy : Qz b y) : Qz (a + b) (x * y) := by
  rw [← fr_mul]
  refine qz_div (bz_mul hx.1 hy.1) (bz_mul hx.d hy.d) ?_
  have h1 := x.den_nz
  have h2 := y.den_nz
  exact Int.mul_ne_zero (by omega) (by omega)
theorem qz0 {b : Nat} (h : 0 < b) : Qz b 0 := ⟨Nat.two_pow_pos b, Nat.one_lt_two_pow (by omega)⟩
theorem qz1 {b : Nat} (h : 0 < b) : Qz b 1 := ⟨Nat.one_lt_two_pow (by omega), Nat.one_lt_two_pow (by omega)⟩
/-! ### rows by their worths -/
def ev : List Rat → Rat → Rat
  | [], _ => 0
  | c :: l, x => c + x * ev l x
/-- the last number is not 0 -/
def Tr (l : List Rat) : Prop := ∀ h : l ≠ [], l.getLast h ≠ 0
theorem tr_nil : Tr [] := fun h => absurd rfl h
theorem Tr.tail {c : Rat} {l : List Rat} (h : Tr (c :: l)) : Tr l := fun hn => by
  have := h (List.cons_ne_nil _ _)
  rwa [List.getLast_cons hn] at this
theorem Tr.ne {c : Rat} (h : Tr [c]) : c ≠ 0 := h (List.cons_ne_nil _ _)
theorem ev_zeros {l : List Rat} (h : ∀ c ∈ l, c = 0) (x : Rat) : ev l x = 0 := by
  induction l with
  | nil => rfl
  | cons c l ih =>
    show c + x * ev l x = 0
    rw [ih fun d hd => h d (List.mem_cons_of_mem _ hd), h c List.mem_cons_self]
    grind
/-- far out a row that is not nought is far from 0 -/
theorem ev_far (l : List Rat) (h : ∃ c ∈ l, c ≠ 0) : ∃ X e : Rat, 1 ≤ X ∧ 0 < e ∧ ∀ x, X ≤ x → e ≤ ev l x ∨ ev l x ≤ -e := by
  induction l with
  | nil => obtain ⟨c, hc, _⟩ := h; cases hc
  | cons c l ih =>
    by_cases hl : ∃ d ∈ l, d ≠ 0
    · obtain ⟨X, e, hX, he, hf⟩ := ih hl
      have hen : e ≠ 0 := by grind
      refine ⟨X + (c.abs + 1) / e, 1, ?_, by decide, fun x hx => ?_⟩
      · have h1 : 0 ≤ c.abs := Rat.abs_nonneg
        have h2 : 0 ≤ (c.abs + 1) / e := by
          rw [Rat.div_def]
          exact Rat.mul_nonneg (by grind) (Rat.le_of_lt (Rat.inv_pos.mpr he))
        grind
      · have h1 : 0 ≤ c.abs := Rat.abs_nonneg
        have h2 : 0 ≤ (c.abs + 1) / e := by
          rw [Rat.div_def]
          exact Rat.mul_nonneg (by grind) (Rat.le_of_lt (Rat.inv_pos.mpr he))
        have hxX : X ≤ x := by grind
        have hx1 : (c.abs + 1) / e ≤ x := by grind
        have hx0 : 0 ≤ x := by grind
        have h3 : c.abs + 1 ≤ x * e := by
          have h4 : ((c.abs + 1) / e) * e ≤ x * e := Rat.mul_le_mul_of_nonneg_right hx1 (Rat.le_of_lt he)
          have h5 : ((c.abs + 1) / e) * e = c.abs + 1 := by grind
          rw [h5] at h4
          exact h4
        have hc1 : c ≤ c.abs := by unfold Rat.abs; split <;> grind
        have hc2 : -c ≤ c.abs := by unfold Rat.abs; split <;> grind
        show 1 ≤ c + x * ev l x ∨ c + x * ev l x ≤ -1
        rcases hf x hxX with h | h
        · left
          have h6 : x * e ≤ x * ev l x := Rat.mul_le_mul_of_nonneg_left h hx0
          grind
        · right
          have h6 : x * ev l x ≤ x * (-e) := Rat.mul_le_mul_of_nonneg_left h hx0
          grind
    · have hz : ∀ d ∈ l, d = 0 := fun d hd => Classical.byContradiction fun z => hl ⟨d, hd, z⟩
      have hc : c ≠ 0 := by
        obtain ⟨d, hd, hne⟩ := h
        rcases List.mem_cons.mp hd with rfl | hd
        · exact hne
        · exact absurd (hz d hd) hne
      have e1 : ∀ x, ev (c :: l) x = c := fun x => by
        show c + x * ev l x = c
        rw [ev_zeros hz]
        grind
      rcases (by grind : c < 0 ∨ c = 0 ∨ 0 < c) with hc0 | hc0 | hc0
      · exact ⟨1, -c, by decide, by grind, fun x _ => by rw [e1]; right; grind⟩
      · exact absurd hc0 hc
      · exact ⟨1, c, by decide, hc0, fun x _ => by rw [e1]; left; grind⟩
theorem tr_some {c : Rat} {l : List Rat} (h : Tr (c :: l)) : ∃ d ∈ c :: l, d ≠ 0 := ⟨_, List.getLast_mem (List.cons_ne_nil _ _), h (List.cons_ne_nil _ _)⟩
/-- rows of no worth but 0 -/
theorem ev_nought {l : List Rat} (h : ∀ x, ev l x = 0) : ∀ c ∈ l, c = 0 := fun c hc => Classical.byContradiction fun z => by
  obtain ⟨X, e, h1, h2, h3⟩ := ev_far l ⟨c, hc, z⟩
  have := h3 X Rat.le_refl
  rw [h] at this
  grind
def ladd : List Rat → List Rat → List Rat
  | [], b => b
  | a, [] => a
  | x :: a, y :: b => (x + y) :: ladd a b
theorem ev_ladd : ∀ (a b : List Rat) (x : Rat), ev (ladd a b) x = ev a x + ev b x
  | [], b, x => by
    show ev b x = 0 + ev b x
    grind
  | c :: a, [], x => by
    show ev (c :: a) x = ev (c :: a) x + 0
    grind
  | c :: a, d :: b, x => by
    show (c + d) + x * ev (ladd a b) x = (c + x * ev a x) + (d + x * ev b x)
    rw [ev_ladd a b x]
    grind
theorem ev_scale (k : Rat) (a : List Rat) (x : Rat) : ev (a.map (k * ·)) x = k * ev a x := by
  induction a with
  | nil => show (0 : Rat) = k * 0; grind
  | cons c a ih =>
    show k * c + x * ev (a.map (k * ·)) x = k * (c + x * ev a x)
    rw [ih]
    grind
theorem ladd_nil (a : List Rat) : ladd a [] = a := by cases a <;> rfl
/-- two rows of the same worths are the same -/
theorem ev_inj : ∀ {a b : List Rat}, Tr a → Tr b → (∀ x, ev a x = ev b x) → a = b := by
  have key : ∀ (a b : List Rat), Tr a → Tr b → (∀ c ∈ ladd a (b.map ((-1 : Rat) * ·)), c = 0) → a = b := by
    intro a
    induction a with
    | nil =>
      intro b _ hb h
      cases b with
      | nil => rfl
      | cons d b =>
        exfalso
        obtain ⟨c, hc, hne⟩ := tr_some hb
        have := h ((-1 : Rat) * c) (List.mem_map.mpr ⟨c, hc, rfl⟩)
        grind
    | cons c a ih =>
      intro b ha hb h
      cases b with
      | nil =>
        exfalso
        obtain ⟨d, hd, hne⟩ := tr_some ha
        exact hne (h d (by show d ∈ ladd (c :: a) []; rw [ladd_nil]; exact hd))
      | cons d b =>
        have h1 : c + -1 * d = 0 := h _ List.mem_cons_self
        have h2 := ih b ha.tail hb.tail fun e he => h e (List.mem_cons_of_mem _ he)
        rw [h2]
        have : c = d := by grind
        rw [this]
  intro a b ha hb h
  refine key a b ha hb (ev_nought fun x => ?_)
  rw [ev_ladd, ev_scale, h]
  grind
theorem ev_append (a b : List Rat) (x : Rat) : ev (a ++ b) x = ev a x + x ^ a.length * ev b x := by
  induction a with
  | nil => show ev b x = 0 + x ^ 0 * ev b x; rw [Rat.pow_zero]; grind
  | cons c a ih =>
    show c + x * ev (a ++ b) x = (c + x * ev a x) + x ^ (a.length + 1) * ev b x
    rw [ih, Rat.pow_succ]
    grind
theorem ev_set {l : List Rat} {k : Nat} (h : k < l.length) (v x : Rat) : ev (l.set k (l[k] + v)) x = ev l x + v * x ^ k := by
  induction l generalizing k with
  | nil => exact absurd h (Nat.not_lt_zero _)
  | cons c l ih =>
    cases k with
    | zero =>
      show (c + v) + x * ev l x = (c + x * ev l x) + v * x ^ 0
      rw [Rat.pow_zero]
      grind
    | succ k =>
      have hk : k < l.length := Nat.lt_of_succ_lt_succ h
      show c + x * ev (l.set k (l[k] + v)) x = (c + x * ev l x) + v * x ^ (k + 1)
      rw [ih hk, Rat.pow_succ]
      grind
theorem ev_replicate0 (n : Nat) (x : Rat) : ev (List.replicate n 0) x = 0 := ev_zeros (fun c hc => (List.mem_replicate.mp hc).2) x
end Vx
namespace Vx
/-- i is below 2 ^ b -/
def Bz (b : Nat) (i : Int) : Prop := i.natAbs < 2 ^ b
theorem Bz.mono {b c : Nat} {i : Int} (h : Bz b i) (le : b ≤ c) : Bz c i := bz_mono h le
theorem Bz.mul {a b : Nat} {i j : Int} (hi : Bz a i) (hj : Bz b j) : Bz (a + b) (i * j) := bz_mul hi hj
theorem Bz.add {a : Nat} {i j : Int} (hi : Bz a i) (hj : Bz a j) : Bz (a + 1) (i + j) := bz_add hi hj
theorem Bz.sub {a : Nat} {i j : Int} (hi : Bz a i) (hj : Bz a j) : Bz (a + 1) (i - j) := bz_sub hi hj
theorem Qz.n {b : Nat} {q : Rat} (h : Qz b q) : Bz b q.num := h.1
theorem Qz.dd {b : Nat} {q : Rat} (h : Qz b q) : Bz b (q.den : Int) := h.2
theorem Qz.of_div {n m : Int} {b : Nat} (h1 : Bz b n) (h2 : Bz b m) (h0 : m ≠ 0) : Qz b (Rat.divInt n m) := qz_div h1 h2 h0
end Vx
namespace Vx
theorem rpow_add (x : Rat) (i j : Nat) : x ^ (i + j) = x ^ i * x ^ j := by
  induction j with
  | zero => rw [Nat.add_zero, Rat.pow_zero]; grind
  | succ j ih => rw [← Nat.add_assoc, Rat.pow_succ, ih, Rat.pow_succ]; grind
end Vx
namespace Vx
open PySem PySem.Spec PyProof.Rows L2
/-- // by any divisor other than 0 below 2 ^ 9000 -/
def CDivX (_ j : Int) : Prop := j ≠ 0 ∧ j.natAbs.log2 < 9000
theorem cdivx {i j : Int} {b : Nat} (h0 : j ≠ 0) (h : Bz b j) (hb : b ≤ 9000) : CDivX i j := by
  refine ⟨h0, ?_⟩
  exact (Nat.log2_lt (by omega)).mpr (Nat.lt_of_lt_of_le h (Nat.pow_le_pow_right (by decide) hb))
theorem cmulx {i j : Int} {a b : Nat} (ha : Bz a i) (hb : Bz b j) (h : a + b ≤ 100000) : CMulX i j := mulx_ok ha hb (by omega)
section
variable {X : Cx}
theorem op_fdivX : OpR X (binaryOp .FloorDiv) (rI CDivX fun i j => .int (i.fdiv j)) := opI fun i j _ _ _ _ _ hc q =>
  floordiv_int hc.1 q (.inl (PyProof.noPylong_of_log2 hc.2))
/-- math.lcm of two ints below 2 ^ 9000 -/
def rLcm : List V → Hp → VK → Prop := fun vs H Q => ∃ a b : Int, vs = [.int a, .int b] ∧ Bz 9000 a ∧ Bz 9000 b ∧ Q (.int ((Nat.lcm a.natAbs b.natAbs : Nat) : Int)) H
theorem log_lt {n b : Nat} (hb : 0 < b) (h : n < 2 ^ b) : n.log2 < b := by
  by_cases h0 : n = 0
  · subst h0
    rw [Nat.log2_zero]
    exact hb
  · exact (Nat.log2_lt h0).mpr h
theorem cr_lcm : CallR X (.builtin "math.lcm") rLcm := by
  intro pins s σ H vs us Q I r h
  obtain ⟨a, b, rfl, ha, hb, q⟩ := h
  obtain ⟨t, u, rfl⟩ := Vals.int2 r
  have p1 : 1 < 2 ^ 9000 := Nat.one_lt_two_pow (by decide)
  have h1 : (max 1 a.natAbs).log2 < 9000 := log_lt (by decide) (by
    rcases Nat.le_total 1 a.natAbs with z | z
    · rw [Nat.max_eq_right z]; exact ha
    · rw [Nat.max_eq_left z]; exact p1)
  have h2 : (max a.natAbs b.natAbs).log2 < 9000 := log_lt (by decide) (by
    rcases Nat.le_total a.natAbs b.natAbs with z | z
    · rw [Nat.max_eq_right z]; exact hb
    · rw [Nat.max_eq_left z]; exact ha)
  have e1 : (Nat.lcm 1 a.natAbs).lcm b.natAbs = Nat.lcm a.natAbs b.natAbs := by rw [Nat.lcm_one_left]
  have hsz : ((((Nat.lcm 1 a.natAbs).lcm b.natAbs : Nat) : Int)).natAbs.log2 < bitsLine := by
    rw [e1, Int.natAbs_natCast]
    have hl : Nat.lcm a.natAbs b.natAbs ≤ a.natAbs * b.natAbs := by
      unfold Nat.lcm
      exact Nat.div_le_self _ _
    have hm : Nat.lcm a.natAbs b.natAbs < 2 ^ 18000 := by
      rw [show (18000 : Nat) = 9000 + 9000 from rfl, Nat.pow_add]
      exact Nat.lt_of_le_of_lt hl (Nat.mul_lt_mul'' ha hb)
    have := log_lt (by decide) hm
    rw [bitsLine_eq]
    omega
  refine PySem.call_function_meets PySem.W.MGF.kind_lcm PySem.W.MGF.plain_lcm PySem.W.MGF.entry_lcm (PySem.W.MGF.args_lcm _ _) (PySem.W.mg_run_lcm a t b u (by omega) (by omega) hsz).meets ?_
  rw [e1]
  exact ⟨.int _, H, I.tok _, ⟨_, rfl⟩, q⟩
/-- type(x), x a tuple -/
theorem call_typeT : CallR X (.type "type") (fun vs H Q => ∃ a xs, vs = [.ref a] ∧ SqT X.K H a xs ∧ Q (.ty "tuple") H) := by
  intro pins s σ H xs us Q I r h
  obtain ⟨a, ys, rfl, hq, q⟩ := h
  obtain ⟨u, rfl, rx⟩ := vals1 r
  cases rx
  obtain ⟨its, rv, p, _⟩ := I.tuple hq
  exact call_type_of p.typeIs (by decide +kernel) ⟨.ty "tuple", H, I, rfl, q⟩
/-- type(x), x an int -/
theorem call_typeI : CallR X (.type "type") (fun vs H Q => ∃ i, vs = [.int i] ∧ Q (.ty "int") H) := by
  intro pins s σ H xs us Q I r h
  obtain ⟨i, rfl, q⟩ := h
  obtain ⟨u, rfl, rx⟩ := vals1 r
  obtain ⟨t, rfl⟩ := rx
  exact call_type_of (typeIs_int _ i t) (by decide +kernel) ⟨.ty "int", H, I, rfl, q⟩
end

theorem tuple_mul1 (l : Addr) (items : Array Value) (n : Nat) (dd : Option Addr) (sl : Array (Option Value)) (u : Tok) :
    Meets (Builtin.«tuple.__mul__» ⟨[.ref l, .int 1 u], []⟩) (fun _ R s => s.heap.get? l = some { cls := .type "tuple", dict := dd, data := .seq items n, slots := sl } ∧ R (.ok (.ret (Value.ref l))) s) :=
  .of_wp fun prog w A R s h => by
    obtain ⟨hp, g, d, tk, os⟩ := s
    obtain ⟨hl, h⟩ := h
    have f1 := AutoSeq1.idx_int
    have c1 : (items.isEmpty || ((1 : Int) == 1)) = true := by simp
    wp_walk using wpAny_loadPart' hl
    repeat (first
      | (refine wpAny_ite_true (decide_eq_true (by rw [c1])) ?_; wp_walk using wpAny_loadPart' hl))
    exact ⟨_, rfl, h⟩
theorem tuple_mul0 (l : Addr) (items : Array Value) (n : Nat) (dd : Option Addr) (sl : Array (Option Value)) (u : Tok) (hne : items.isEmpty = false) :
    Meets (Builtin.«tuple.__mul__» ⟨[.ref l, .int 0 u], []⟩) (fun _ R s => s.heap.get? l = some { cls := .type "tuple", dict := dd, data := .seq items n, slots := sl } ∧ R (.ok (.ret (Value.ref s.heap.objs.size))) { s with heap := s.heap.push { cls := Value.type "tuple", data := Data.seq #[] }, toks := s.toks }) :=
  .of_wp fun prog w A R s h => by
    obtain ⟨hp, g, d, tk, os⟩ := s
    obtain ⟨hl, h⟩ := h
    have f1 := AutoSeq1.idx_int
    have c1 : (items.isEmpty || ((0 : Int) == 1)) = false := by rw [hne]; decide
    wp_walk using wpAny_loadPart' hl
    repeat (first
      | (refine wpAny_ite_false (decide_eq_false (by rw [c1]; exact Bool.false_ne_true)) ?_; wp_walk using wpAny_loadPart' hl)
      | (refine wpAny_ite_true (decide_eq_true (by simp)) ?_; wp_walk using wpAny_loadPart' hl))
    exact ⟨_, rfl, h⟩

/-- tuple * int, from 0 on -/
def rRepA (K : PySem.W.Frag) : R2 := fun x y H Q => ∃ l k xs, x = .ref l ∧ y = .int k ∧ SqT K H l xs ∧ xs ≠ [] ∧ 0 ≤ k ∧ k ≤ 1000 ∧ xs.length ≤ 1000 ∧ (k = 1 → Q (.ref l) H) ∧ (k ≠ 1 → ∀ p, H p = none → Q (.ref p) (upd H p (.tup (List.replicate k.toNat xs).flatten)))
theorem op_repA {X : Cx} : OpR X (binaryOp .Mult) (rRepA X.K) := by
  intro pins s σ H x y v u Q I rx ry h
  obtain ⟨l, k, xs, rfl, rfl, hT, hne, h1, h2, hz, q1, q2⟩ := h
  by_cases hk2 : 2 ≤ k
  · exact op_repT pins s σ H _ _ v u Q I rx ry ⟨l, k, xs, rfl, rfl, hT, hne, hk2, h2, hz, q2 (by omega)⟩
  cases rx
  obtain ⟨t, rfl⟩ := ry
  obtain ⟨its, r, ⟨⟨cls, dd, data, sl⟩, ho, hc, n, hd⟩, hs⟩ := I.tuple hT
  simp only at hc hd
  subst hc hd
  have hle : its.length = xs.length := r.length.symm
  have hn : its ≠ [] := fun e => hne (by
    rw [e] at hle
    exact List.eq_nil_of_length_eq_zero hle.symm)
  have hi : its.toArray.isEmpty = false := by
    cases its with
    | nil => exact absurd rfl hn
    | cons a b => rfl
  have hk : k = 0 ∨ k = 1 := by omega
  rcases hk with rfl | rfl
  · refine wpAny_binaryOp_repeat_ref (T := "tuple") (U := "int") (by decide) ⟨_, ho, rfl⟩ (fun s' => typeIs_int s' 0 t) noFill_tuple_mul F.fills_int_mul F.slot_int_rmul repeat_tuple F.slot_int_index.lookup
      (call_meets F.slot_int_rmul (typeIs_int s 0 t) F.entry_int_rmul (F.args_int_rmul_2 _ _) (int_rmul_tuple 0 t l its.toArray n dd sl)
        ⟨ho, rfl, ⟨_, ho, rfl⟩, call_meets F.slot_tuple_mul ⟨_, ho, rfl⟩ F.entry_tuple_mul (F.args_tuple_mul_2 _ _) (tuple_mul0 l its.toArray n dd sl t hi) ⟨ho, ?_⟩⟩)
    refine ⟨.ref s.heap.objs.size, _, I.laid (t' := s.toks) (o := .tup []) (fun b ob q => Heap.get?_push_of_some _ q) (Nat.le_refl _) ?_, rfl, q2 (by decide) _ (I.hok.fresh (Nat.le_refl _))⟩
    exact ⟨Nat.zero_le _, [], .nil, IsTup.new _ _⟩
  · exact wpAny_binaryOp_repeat_ref (T := "tuple") (U := "int") (by decide) ⟨_, ho, rfl⟩ (fun s' => typeIs_int s' 1 t) noFill_tuple_mul F.fills_int_mul F.slot_int_rmul repeat_tuple F.slot_int_index.lookup
      (call_meets F.slot_int_rmul (typeIs_int s 1 t) F.entry_int_rmul (F.args_int_rmul_2 _ _) (int_rmul_tuple 1 t l its.toArray n dd sl)
        ⟨ho, rfl, ⟨_, ho, rfl⟩, call_meets F.slot_tuple_mul ⟨_, ho, rfl⟩ F.entry_tuple_mul (F.args_tuple_mul_2 _ _) (tuple_mul1 l its.toArray n dd sl t) ⟨ho, ⟨.ref l, H, I, rfl, q1 rfl⟩⟩⟩)
theorem sz_of {n : Nat} (m : Nat) (h : n = m) (hm : m ≤ 1000) : n ≤ sizeLine := by
  rw [sizeLine_eq]
  omega
theorem tif {c : Prop} [Decidable c] {A B : Prop} (h1 : c → A) (h2 : ¬ c → B) : if decide c = true then A else B := by
  by_cases h : c
  · rw [decide_eq_true h, if_pos rfl]
    exact h1 h
  · rw [decide_eq_false h, if_neg Bool.false_ne_true]
    exact h2 h
/-! ### what stays -/
/-- all but lists stays -/
def SameT (H H' : Hp) : Prop := ∀ b o, H b = some o → (∀ xs, o ≠ .lst xs) → H' b = some o
theorem SameT.refl (H : Hp) : SameT H H := fun _ _ e _ => e
theorem SameT.trans {H H1 H2 : Hp} (a : SameT H H1) (b : SameT H1 H2) : SameT H H2 := fun c o e n => b c o (a c o e n) n
theorem same_t {H H' : Hp} (e : Same H H') : SameT H H' := fun b o h _ => e b o h
theorem samet_lst {H : Hp} {D : Addr} {xs ys : List V} (h : H D = some (.lst xs)) : SameT H (upd H D (.lst ys)) := fun b o e n => by
  have : b ≠ D := fun z => by
    rw [z, h] at e
    cases e
    exact n _ rfl
  rw [upd_ne this]
  exact e
theorem samet_seqT {K : PySem.W.Frag} {H H' : Hp} {a : Addr} {xs : List V} (e : SameT H H') (h : SqT K H a xs) : SqT K H' a xs := by
  rcases h with (h | ⟨o, h⟩) | h
  · exact Or.inl (Or.inl (e _ _ h fun _ z => by cases z))
  · exact Or.inl (Or.inr ⟨o, e _ _ h fun _ z => by cases z⟩)
  · exact Or.inr h
/-! ### fractions, rows -/
/-- v is the fraction q -/
def FrT (K : PySem.W.Frag) (H : Hp) (v : V) (q : Rat) : Prop := ∃ a, v = .ref a ∧ SqT K H a [.int q.num, .int q.den]
theorem FrT.mono {K : PySem.W.Frag} {H H' : Hp} {v : V} {q : Rat} (e : SameT H H') (h : FrT K H v q) : FrT K H' v q := by
  obtain ⟨a, r, s⟩ := h
  exact ⟨a, r, samet_seqT e s⟩
/-- things of a list, one by one -/
inductive Al (R : V → Rat → Prop) : List V → List Rat → Prop
  | nil : Al R [] []
  | cons {v : V} {q : Rat} {vs : List V} {qs : List Rat} : R v q → Al R vs qs → Al R (v :: vs) (q :: qs)
theorem Al.length {R : V → Rat → Prop} : ∀ {vs : List V} {qs : List Rat}, Al R vs qs → vs.length = qs.length
  | _, _, .nil => rfl
  | _, _, .cons _ t => by rw [List.length_cons, List.length_cons, t.length]
theorem Al.mono {R S : V → Rat → Prop} (f : ∀ (v : V) (q : Rat), R v q → S v q) : ∀ {vs : List V} {qs : List Rat}, Al R vs qs → Al S vs qs
  | _, _, .nil => .nil
  | _, _, .cons h t => .cons (f _ _ h) (t.mono f)
theorem Al.get {R : V → Rat → Prop} {vs : List V} {qs : List Rat} (h : Al R vs qs) {i : Nat} {v : V} (e : vs[i]? = some v) : ∃ q, qs[i]? = some q ∧ R v q := by
  induction h generalizing i with
  | nil => simp at e
  | cons h t ih =>
    cases i with
    | zero =>
      simp at e
      subst e
      exact ⟨_, rfl, h⟩
    | succ i => exact ih (by simpa using e)
theorem Al.get' {R : V → Rat → Prop} {vs : List V} {qs : List Rat} (h : Al R vs qs) {i : Nat} {q : Rat} (e : qs[i]? = some q) : ∃ v, vs[i]? = some v ∧ R v q := by
  induction h generalizing i with
  | nil => simp at e
  | cons h t ih =>
    cases i with
    | zero =>
      simp at e
      subst e
      exact ⟨_, rfl, h⟩
    | succ i => exact ih (by simpa using e)
theorem Al.of {R : V → Rat → Prop} : ∀ {vs : List V} {qs : List Rat}, vs.length = qs.length → (∀ (i : Nat) (v : V) (q : Rat), vs[i]? = some v → qs[i]? = some q → R v q) → Al R vs qs
  | [], [], _, _ => .nil
  | [], _ :: _, h, _ => by cases h
  | _ :: _, [], h, _ => by cases h
  | v :: vs, q :: qs, h, f => .cons (f 0 v q rfl rfl) (Al.of (by simpa using h) fun i a b e1 e2 => f (i + 1) a b (by simpa using e1) (by simpa using e2))
theorem Al.append {R : V → Rat → Prop} {us vs : List V} {ps qs : List Rat} (h : Al R us ps) (t : Al R vs qs) : Al R (us ++ vs) (ps ++ qs) := by
  induction h with
  | nil => exact t
  | cons h _ ih => exact .cons h ih
theorem Al.take {R : V → Rat → Prop} {vs : List V} {qs : List Rat} (h : Al R vs qs) (n : Nat) : Al R (vs.take n) (qs.take n) := by
  induction h generalizing n with
  | nil => simp; exact .nil
  | cons h t ih =>
    cases n with
    | zero => exact .nil
    | succ n => exact .cons h (ih n)
theorem Al.drop {R : V → Rat → Prop} {vs : List V} {qs : List Rat} (h : Al R vs qs) (n : Nat) : Al R (vs.drop n) (qs.drop n) := by
  induction h generalizing n with
  | nil => simp; exact .nil
  | cons h t ih =>
    cases n with
    | zero => exact .cons h t
    | succ n => exact ih n
abbrev FrA (K : PySem.W.Frag) (H : Hp) : List V → List Rat → Prop := Al (FrT K H)
theorem fra_mono {K : PySem.W.Frag} {H H' : Hp} {vs : List V} {qs : List Rat} (e : SameT H H') (h : FrA K H vs qs) : FrA K H' vs qs := h.mono fun _ _ => FrT.mono e
/-- v is the tuple of the fractions qs -/
def RwT (K : PySem.W.Frag) (H : Hp) (v : V) (qs : List Rat) : Prop := ∃ a vs, v = .ref a ∧ SqT K H a vs ∧ FrA K H vs qs
theorem RwT.mono {K : PySem.W.Frag} {H H' : Hp} {v : V} {qs : List Rat} (e : SameT H H') (h : RwT K H v qs) : RwT K H' v qs := by
  obtain ⟨a, vs, r, s, f⟩ := h
  exact ⟨a, vs, r, samet_seqT e s, fra_mono e f⟩
/-- the data of a fraction, of a row -/
def dFr (q : Rat) : PyData := .tuple [.int q.num, .int q.den]
def dRw (qs : List Rat) : PyData := .tuple (qs.map dFr)
theorem rp_fr {K : PySem.W.Frag} {H : Hp} {v : V} {q : Rat} (h : FrT K H v q) : Rp K H v (dFr q) := by
  obtain ⟨a, rfl, s⟩ := h
  exact .tup s (.cons (.int _) (.cons (.int _) .nil))
theorem rpa_fr {K : PySem.W.Frag} {H : Hp} : ∀ {vs : List V} {qs : List Rat}, FrA K H vs qs → RpA K H vs (qs.map dFr)
  | _, _, .nil => .nil
  | _, _, .cons h t => .cons (rp_fr h) (rpa_fr t)
theorem rp_rw {K : PySem.W.Frag} {H : Hp} {v : V} {qs : List Rat} (h : RwT K H v qs) : Rp K H v (dRw qs) := by
  obtain ⟨a, vs, rfl, s, f⟩ := h
  exact .tup s (rpa_fr f)
/-! ### a comprehension, item by item -/
theorem lc_map {J : It} {n : Nat} {G : Hp → Prop} {Y : Nat → Hp → V → Hp → Prop} (w : Walk J n G Y) {g : TG} {te : TE} {vs : List Nat} {σ : L2.St} {H1 : Hp} {D : Addr} {Qd : Hp → Prop}
    (hD : H1 D = none) (hn : n < sizeLine) (Pa : Nat → Hp → V → Prop) (stab : ∀ i H H' v, SameT H H' → Pa i H v → Pa i H' v) (hG : ∀ H, Same H1 H → G H)
    (hs : ∀ i x H H', i < n → Same H1 H → (∃ xs, H D = some (.lst xs)) → Y i H x H' → ∀ Fin : V → Hp → Prop, (∀ y H4, Same H H4 → Pa i H4 y → Fin y H4) →
      g x (wipe σ vs) H' fun σ2 H2 => wipe σ2 vs = wipe σ vs ∧ te σ2 H2 Fin)
    (hd : ∀ H acc, Same H1 H → H D = some (.lst acc) → acc.length = n → (∀ i y, acc[i]? = some y → Pa i H y) → Qd H) :
    ∃ W : Nat → Nat → Hp → Prop, (∃ m, W 0 m (upd H1 D (.lst []))) ∧ ∀ i m H, W i m H →
      (J.stop i H ∧ Qd H) ∨ (J.go i H ∧ ∃ Nx : Hp → Prop, (∀ H', Nx H' → ∃ m', m' < m ∧ W (i + 1) m' H') ∧ ∀ x H', J.yld i H x H' → g x (wipe σ vs) H' fun σ2 H2 => wipe σ2 vs = wipe σ vs ∧ tYes σ2 H2 fun b H3 =>
        if b = true then te σ2 H3 fun y H4 => ∃ acc, H4 D = some (.lst acc) ∧ acc.length < sizeLine ∧ Nx (upd H4 D (.lst (acc ++ [y]))) else Nx H3) := by
  refine lc_it w (fun i H => Same H1 H ∧ ∃ acc, H D = some (.lst acc) ∧ acc.length = i ∧ ∀ j y, acc[j]? = some y → Pa j H y) ⟨same_new hD, [], upd_same, rfl, fun j y e => by simp at e⟩ (fun i H _ p => hG H p.1) ?_ ?_
  · rintro i x H H' hi ⟨s0, acc, e0, l0, p0⟩ hy
    have hs' := hs i x H H' hi s0 ⟨_, e0⟩ hy (fun y H4 => ∃ acc, H4 D = some (.lst acc) ∧ acc.length < sizeLine ∧ (Same H1 (upd H4 D (.lst (acc ++ [y]))) ∧ ∃ acc', upd H4 D (.lst (acc ++ [y])) D = some (.lst acc') ∧ acc'.length = i + 1 ∧ ∀ j y', acc'[j]? = some y' → Pa j (upd H4 D (.lst (acc ++ [y]))) y')) ?_
    · have e1 : (fun (σ2 : L2.St) (H2 : Hp) => wipe σ2 vs = wipe σ vs ∧ tYes σ2 H2 fun b H3 => if b = true then te σ2 H3 (fun y H4 => ∃ acc, H4 D = some (.lst acc) ∧ acc.length < sizeLine ∧ (Same H1 (upd H4 D (.lst (acc ++ [y]))) ∧ ∃ acc', upd H4 D (.lst (acc ++ [y])) D = some (.lst acc') ∧ acc'.length = i + 1 ∧ ∀ j y', acc'[j]? = some y' → Pa j (upd H4 D (.lst (acc ++ [y]))) y'))
            else (Same H1 H3 ∧ ∃ acc, H3 D = some (.lst acc) ∧ acc.length = i + 1 ∧ ∀ j y, acc[j]? = some y → Pa j H3 y)) = fun σ2 H2 => wipe σ2 vs = wipe σ vs ∧ te σ2 H2 (fun y H4 => ∃ acc, H4 D = some (.lst acc) ∧ acc.length < sizeLine ∧ (Same H1 (upd H4 D (.lst (acc ++ [y]))) ∧ ∃ acc', upd H4 D (.lst (acc ++ [y])) D = some (.lst acc') ∧ acc'.length = i + 1 ∧ ∀ j y', acc'[j]? = some y' → Pa j (upd H4 D (.lst (acc ++ [y]))) y')) := by
        funext σ2 H2
        unfold tYes
        dsimp only []
        rw [if_pos rfl]
      rw [e1]
      exact hs'
    · intro y H4 s4 p4
      have e4 : H4 D = some (.lst acc) := s4 _ _ e0
      refine ⟨acc, e4, by omega, fun b o e => ?_, acc ++ [y], upd_same, by rw [List.length_append, l0] <;> rfl, fun j y' ej => ?_⟩
      · have : b ≠ D := ne_of_none e hD
        rw [upd_ne this]
        exact s4 _ _ (s0 _ _ e)
      · rcases Nat.lt_or_ge j acc.length with hj | hj
        · rw [List.getElem?_append_left hj] at ej
          exact stab _ _ _ _ ((same_t s4).trans (samet_lst e4)) (p0 j y' ej)
        · rw [List.getElem?_append_right hj] at ej
          have hj0 : j - acc.length = 0 := by
            rcases Nat.eq_zero_or_pos (j - acc.length) with z | z
            · exact z
            · rw [List.getElem?_eq_none (show [y].length ≤ j - acc.length from z)] at ej
              cases ej
          rw [hj0] at ej
          have ey : y = y' := by simpa using ej
          have ej2 : j = i := by omega
          rw [← ey, ej2]
          exact stab _ _ _ _ (samet_lst e4) p4
  · rintro H ⟨s0, acc, e0, l0, p0⟩
    exact hd H acc s0 e0 l0 p0
end Vx
namespace Vx
open PySem PySem.Spec PyProof.Rows L2
section
variable {X : Cx}
def rGetL (K : PySem.W.Frag) : V → V → Hp → VK → Prop := fun x y H Q => ∃ p xs i v, x = .ref p ∧ y = .int i ∧ SqL K H p xs ∧ 0 ≤ i ∧ xs[i.toNat]? = some v ∧ Q v H
theorem get_list : PGet X (rGetL X.K) := by
  intro pins s σ H x y v u Q I rx ry h
  obtain ⟨p, xs, i, z, rfl, rfl, hq, h0, he, q⟩ := h
  cases rx
  obtain ⟨t, rfl⟩ := ry
  obtain ⟨its, r, pl, hz⟩ := I.list hq
  obtain ⟨w, ew, rw'⟩ := r.get he
  have hl := r.length
  have hn := line63
  have hi := (List.getElem?_eq_some_iff.mp he).1
  have fin : EP X pins σ Q w s := ⟨z, H, I, rw', q⟩
  exact wpAny_getItem_list pl.isList h0 (by omega) (by simpa using ew) fin
/-- how the def's two parameters bind by the names k1, k2, in the other order -/
def Kw2 (fd : FuncData) (ps : List Str) (k1 k2 : Str) : Prop := ∀ (s : Shared) (u v : Value), BindsTo s fd ⟨[], [(k1, u), (k2, v)]⟩ (ps.zip [v, u])
structure Dk (P : Program) (w : World) (K : PySem.W.Frag) (mg : Str → Option Value) (base : Heap) (x : Str) (k : Nat) (ps : List Str) (k1 k2 : Str) (sp : Sp) : Prop where
  ex : ∃ f fd, FnOk P w K mg base CX0 k f fd ps sp ∧ mg x = some (.ref f) ∧ PySem.W.keepIn K (.ref f) = true ∧ Binds K fd ps [] ∧ Kw2 fd ps k1 k2
theorem Dk.df {P : Program} {w : World} {K : PySem.W.Frag} {mg : Str → Option Value} {base : Heap} {x : Str} {k : Nat} {ps : List Str} {k1 k2 : Str} {sp : Sp} (D : Dk P w K mg base x k ps k1 k2 sp) : Df P w K mg base x k ps sp := by
  obtain ⟨f, fd, F, a, b, c, _⟩ := D.ex
  exact ⟨f, fd, F, a, b, c⟩
def tKw2 (sp : Sp) (tk : TA) : TE := fun σ H Q => tk σ H fun zs H2 => ∃ a b, zs = [a, b] ∧ sp [b, a] H2 Q E0
variable {k : Nat} {ps : List Str} {sp : Sp} {x k1 k2 : Str} {p pos p1 p2 : Pos} {e1 e2 : Expr} {tk : TA}
theorem pe_kw2 (D : Dk X.prog X.w X.K X.mg X.base x k ps k1 k2 sp) (hr : Room k X.A) (hg : Gl X x) (hkw : PK X [⟨some k1, e1, p1⟩, ⟨some k2, e2, p2⟩] tk)
    (hdb : (x == ("__debug__" : Str)) = false := by decide)
    (hall : (backToKw pos (keywordEach [⟨some k1, e1, p1⟩, ⟨some k2, e2, p2⟩] X.env)).all (·.1.isSome) = true := by rfl)
    (hks : (backToKw pos (keywordEach [⟨some k1, e1, p1⟩, ⟨some k2, e2, p2⟩] X.env)).filterMap (·.1) = [k1, k2] := by rfl)
    (hpl : ((backTo pos (starEach [] X.env)).any (·.1) || (backToKw pos (keywordEach [⟨some k1, e1, p1⟩, ⟨some k2, e2, p2⟩] X.env)).any (·.1.isNone)) = false := by rfl) :
    PE X (.Call (.Name x p) [] [⟨some k1, e1, p1⟩, ⟨some k2, e2, p2⟩] pos) (tKw2 sp tk) := by
  obtain ⟨f, fd, F, hm, hk, _, hb⟩ := D.ex
  refine ⟨fun pins s σ H Q I h => ?_⟩
  refine wpAny_Call_Name_kw (ld_glob I hg hm ?_ hdb)
  refine PySem.W.callWith_KW0 (h₀ := X.base) I.ok.mod.kin hk hall ?_ hpl
  refine thn (hkw.run pos pins s σ H _ I h) fun ws s2 ⟨zs, H2, I2, rz, a, b, ez, q2⟩ => ⟨I2.kIn, ?_⟩
  subst ez
  rw [hks]
  obtain ⟨u, v, rfl, ra, rb⟩ := vals2 rz
  refine wpAny_call (codeAny_mono (F.run X.A X.stack s2 H2 ⟨[], [(k1, u), (k2, v)]⟩ [v, u] [b, a] Q E0 hr I2.env0 (hb s2 u v) (.cons rb (.cons ra .nil)) q2) fun r s' hq => ?_)
  cases r with
  | error e => exact pass0 pins σ H2 s2 e s' I2 hq
  | ok fl =>
    cases fl with
    | ret u => exact I2.after hq
    | next => exact False.elim hq
    | brk => exact False.elim hq
    | cont => exact False.elim hq
end
end Vx
namespace Vx
open PySem PySem.Spec PyProof.Rows L2
theorem cutV_take {xs : List V} {m : Nat} (h : m ≤ xs.length) : cutV xs none (some (m : Int)) = xs.take m := by
  unfold cutV
  rw [HT.sIx_none, HT.sIx_nat, Nat.min_eq_left h, List.drop_zero, Nat.sub_zero]
theorem eqv_fr (p q : Rat) : PyData.eqv (dFr p) (dFr q) = decide (p = q) := by
  unfold dFr
  simp only [PyData.eqv, PyData.eqvAll]
  by_cases h : p = q
  · subst h
    simp
  · rw [decide_eq_false h]
    by_cases h1 : p.num = q.num
    · have h2 : p.den ≠ q.den := fun z => h (Rat.ext h1 z)
      have h3 : ((p.den : Int) == (q.den : Int)) = false := beq_eq_false_iff_ne.mpr (by omega)
      rw [h3]
      simp
    · rw [beq_eq_false_iff_ne.mpr h1]
      simp
theorem shaped_fr (q : Rat) : SeqAt.shaped (dFr q) = true := by
  unfold dFr SeqAt.shaped
  simp [PyData.canLay0, PyData.depth, PyData.canLayAll0, PyData.depthAll]
theorem dp_fr {K : PySem.W.Frag} {H : Hp} {v : V} {q : Rat} (h : FrT K H v q) : Dp K H v (dFr q) := by
  obtain ⟨a, rfl, s⟩ := h
  exact .tup s (.cons (.int _) (.cons (.int _) .nil))
/-- what rEqD asks of two fractions -/
theorem rEqD_fr {K : PySem.W.Frag} {H : Hp} {x y : V} {p q : Rat} {Q : VK} (hx : FrT K H x p) (hy : FrT K H y q) (h : Q (.bl (decide (p = q))) H) : rEqD K x y H Q :=
  ⟨dFr p, dFr q, dp_fr hx, dp_fr hy, shaped_fr p, shaped_fr q, by rw [eqv_fr]; exact h⟩
theorem rNeD_fr {K : PySem.W.Frag} {H : Hp} {x y : V} {p q : Rat} {Q : VK} (hx : FrT K H x p) (hy : FrT K H y q) (h : Q (.bl (!decide (p = q))) H) : rNeD K x y H Q :=
  ⟨dFr p, dFr q, dp_fr hx, dp_fr hy, shaped_fr p, shaped_fr q, by rw [eqv_fr]; exact h⟩
theorem tr_take_of {qs : List Rat} {m : Nat} (h0 : 0 < m) (hm : m ≤ qs.length) (hne : qs[m - 1]'(by omega) ≠ 0) : Tr (qs.take m) := fun hn => by
  have e : (qs.take m).getLast hn = qs[m - 1]'(by omega) := by
    rw [List.getLast_eq_getElem]
    simp only [List.length_take, List.getElem_take, Nat.min_eq_left hm]
  rw [e]
  exact hne
theorem ev_take_drop (qs : List Rat) (m : Nat) (h : ∀ c ∈ qs.drop m, c = 0) (x : Rat) : ev (qs.take m) x = ev qs x := by
  have := ev_append (qs.take m) (qs.drop m) x
  rw [List.take_append_drop, ev_zeros h] at this
  grind
end Vx
namespace Vx
open PySem PySem.Spec PyProof.Rows L2
def Qs (b : Nat) (qs : List Rat) : Prop := ∀ c ∈ qs, Qz b c
theorem Qs.mono {b c : Nat} {qs : List Rat} (h : Qs b qs) (le : b ≤ c) : Qs c qs := fun x hx => (h x hx).mono le
theorem Qs.take {b : Nat} {qs : List Rat} (h : Qs b qs) (n : Nat) : Qs b (qs.take n) := fun c hc => h c (List.mem_of_mem_take hc)
theorem lcm_bz {D : Int} {d a b : Nat} (h0 : 0 < D) (h1 : Bz a D) (h2 : d < 2 ^ b) : Bz (a + b) ((Nat.lcm D.natAbs (d : Int).natAbs : Nat) : Int) := by
  unfold Bz at *
  rw [Int.natAbs_natCast, Int.natAbs_natCast, Nat.pow_add]
  have hl : Nat.lcm D.natAbs d ≤ D.natAbs * d := by
    unfold Nat.lcm
    exact Nat.div_le_self _ _
  exact Nat.lt_of_le_of_lt hl (Nat.mul_lt_mul'' h1 h2)
theorem lcm_pos' {D : Int} {d : Nat} (h0 : 0 < D) (h1 : d ≠ 0) : 0 < ((Nat.lcm D.natAbs (d : Int).natAbs : Nat) : Int) := by
  rw [Int.natAbs_natCast]
  have := Nat.lcm_pos (show 0 < D.natAbs by omega) (show 0 < d by omega)
  omega
theorem lcm_left {D : Int} {d : Nat} {x : Int} (h : x ∣ D) : x ∣ ((Nat.lcm D.natAbs (d : Int).natAbs : Nat) : Int) := by
  refine Int.dvd_trans h ?_
  have : D.natAbs ∣ Nat.lcm D.natAbs (d : Int).natAbs := Nat.dvd_lcm_left _ _
  exact Int.natAbs_dvd_natAbs.mp (by rw [Int.natAbs_natCast]; exact this)
theorem lcm_right {D : Int} {d : Nat} : (d : Int) ∣ ((Nat.lcm D.natAbs (d : Int).natAbs : Nat) : Int) := by
  have : d ∣ Nat.lcm D.natAbs (d : Int).natAbs := by
    rw [Int.natAbs_natCast]
    exact Nat.dvd_lcm_right _ _
  exact Int.natAbs_dvd_natAbs.mp (by rw [Int.natAbs_natCast, Int.natAbs_natCast]; exact this)
/-- num * (D // den) is D times the fraction -/
theorem clear_eq {q : Rat} {D : Int} (h : (q.den : Int) ∣ D) : ((q.num * D.fdiv (q.den : Int) : Int) : Rat) = (D : Rat) * q := by
  obtain ⟨k, hk⟩ := h
  have hd : (q.den : Int) ≠ 0 := by have := q.den_nz; omega
  have hdr : ((q.den : Int) : Rat) ≠ 0 := by exact_mod_cast hd
  rw [hk, Int.mul_fdiv_cancel_left _ hd]
  have e : q = (q.num : Rat) / ((q.den : Int) : Rat) := by
    rw [← Rat.divInt_eq_div]
    exact (fr_self q).symm
  have key : ∀ (q n d k : Rat), d ≠ 0 → q = n / d → n * k = d * k * q := by
    intro q n d k h1 h2
    grind
  have := key q _ _ (k : Rat) hdr e
  push_cast at this ⊢
  exact this
theorem clear_bz {q : Rat} {D : Int} {a b : Nat} (h0 : 0 < D) (h1 : Bz a D) (h2 : Qz b q) : Bz (b + a) (q.num * D.fdiv (q.den : Int)) := by
  refine Bz.mul h2.n ?_
  unfold Bz at *
  rw [Int.fdiv_eq_ediv_of_nonneg _ (by omega)]
  refine Nat.lt_of_le_of_lt ?_ h1
  exact Int.natAbs_ediv_le_natAbs _ _
end Vx
namespace Vx
open PySem PySem.Spec PyProof.Rows L2
/-- the targets x, y of a comprehension -/
theorem pg_pair {X : Cx} {K : PySem.W.Frag} {i j : Nat} {x y : Str} {p q pos : Pos} {k : Nat} (hK : X.K = K) (hc : X.calm = true) (hN : X.N.Nodup) (hi : X.N[i]? = some x) (hj : X.N[j]? = some y)
    (hx : X.env.scope.names.lookup x = some .local) (hy : X.env.scope.names.lookup y = some .local) : PG X (.Tuple [.Name x p, .Name y q] k pos) (gTup K 2 (gCons (gName i) (gCons (gName j) gNil))) := by
  subst hK
  exact pg_tup hc (pgs_cons (pg_name hN hi (Or.inl hx) (Or.inr hx)) (pgs_cons (pg_name hN hj (Or.inl hy) (Or.inr hy)) pgs_nil))
/-- x[i], x a tuple, within a comprehension -/
theorem pe_ixTK {X : Cx} {K : PySem.W.Frag} {a i : Expr} {ta ti : TE} {pos : Pos} (hK : X.K = K) (h : PE X (.Subscript a i pos) (tOp (rIxT X.K) ta ti)) : PE X (.Subscript a i pos) (tOp (rIxT K) ta ti) := by
  subst hK
  exact h
end Vx
namespace Vx
open PySem PySem.Spec PyProof.Rows L2
theorem walk_zipT {K : PySem.W.Frag} {a b : Addr} {xs ys : List V} {n : Nat} (hn : n = min xs.length ys.length) : Walk (RZ.ItzT K a b) n (fun H => SqT K H a xs ∧ SqT K H b ys) (YPair (fun i => xs[i]?) (fun i => ys[i]?)) := by
  subst hn
  refine ⟨fun i _ hi q => ?_, fun _ q => ⟨xs, ys, q.1, q.2, by omega⟩, fun i H v H' _ q y => ?_⟩
  · have h1 : i < xs.length := by omega
    have h2 : i < ys.length := by omega
    exact ⟨xs, ys, xs[i], ys[i], q.1, q.2, by simp [h1], by simp [h2]⟩
  · obtain ⟨T, x, z, h1, h2, h3, h4, h5⟩ := y
    exact ⟨T, x, z, h1, h2, h3, h4 xs q.1, h5 ys q.2⟩
theorem walk_revT {K : PySem.W.Frag} {a : Addr} {xs : List V} : Walk (RT.ItvT K a xs.length) xs.length (fun H => SqT K H a xs) (fun i H x H' => H' = H ∧ xs[xs.length - 1 - i]? = some x) :=
  ⟨fun i _ hi q => ⟨hi, xs, xs[xs.length - 1 - i]'(by omega), q, by simp [show xs.length - 1 - i < xs.length by omega]⟩, fun _ _ => Nat.le_refl _, fun _ _ _ _ _ q y => ⟨y.1, y.2 xs q⟩⟩
def toR (ns : List Int) : List Rat := ns.map fun (n : Int) => (n : Rat)
theorem ev_toR_div (ns : List Int) {m : Int} (hm : m ≠ 0) (x : Rat) : ev (ns.map fun n => Rat.divInt n m) x = ev (toR ns) x / (m : Rat) := by
  have hr : (m : Rat) ≠ 0 := by exact_mod_cast hm
  induction ns with
  | nil =>
    show (0 : Rat) = 0 / (m : Rat)
    grind
  | cons n ns ih =>
    show Rat.divInt n m + x * ev (ns.map fun n => Rat.divInt n m) x = ((n : Rat) + x * ev (toR ns) x) / (m : Rat)
    rw [ih, Rat.divInt_eq_div]
    grind
theorem al_of_get {R : V → Rat → Prop} {n : Nat} {acc : List V} {f : Nat → Rat} (hl : acc.length = n) (h : ∀ i y, acc[i]? = some y → R y (f i)) : Al R acc ((List.range n).map f) := by
  refine Al.of (by rw [List.length_map, List.length_range, hl]) fun i v q h1 h2 => ?_
  have hi : i < n := by
    have := (List.getElem?_eq_some_iff.mp h1).1
    omega
  rw [List.getElem?_map, List.getElem?_range hi] at h2
  cases h2
  exact h i v h1
theorem map_range_getD {α : Type} (l : List α) (d : α) : (List.range l.length).map (fun i => l.getD i d) = l := by
  refine List.ext_getElem? fun i => ?_
  by_cases hi : i < l.length
  · rw [List.getElem?_map, List.getElem?_range hi, List.getElem?_eq_getElem hi]
    show some (l.getD i d) = _
    rw [List.getD_eq_getElem?_getD, List.getElem?_eq_getElem hi]
    rfl
  · rw [List.getElem?_eq_none (by simp only [List.length_map, List.length_range]; omega), List.getElem?_eq_none (by omega)]
end Vx
namespace Vx
open PySem PySem.Spec PyProof.Rows L2
theorem toR_take_succ {ns : List Int} {i : Nat} {n : Int} (h : ns[i]? = some n) (x : Rat) : ev (toR (ns.take (i + 1))) x = ev (toR (ns.take i)) x + (n : Rat) * x ^ i := by
  have hi := (List.getElem?_eq_some_iff.mp h).1
  rw [List.take_add_one, h]
  unfold toR
  rw [List.map_append, ev_append]
  have e : ((ns.take i).map fun (n : Int) => (n : Rat)).length = i := by rw [List.length_map, List.length_take]; omega
  rw [e]
  show _ + x ^ i * ((n : Rat) + x * 0) = _
  grind
theorem toR_set {ns : List Int} {k : Nat} (h : k < ns.length) (v : Int) (x : Rat) : ev (toR (ns.set k (ns[k] + v))) x = ev (toR ns) x + (v : Rat) * x ^ k := by
  unfold toR
  rw [List.map_set]
  have h2 : k < (ns.map fun (n : Int) => (n : Rat)).length := by rw [List.length_map]; exact h
  have := ev_set h2 (v : Rat) x
  rw [List.getElem_map] at this
  rw [← this]
  push_cast
  rfl
theorem toR_rep (n : Nat) (x : Rat) : ev (toR (List.replicate n 0)) x = 0 := by
  unfold toR
  rw [List.map_replicate]
  exact ev_replicate0 n x
theorem mul_le_pow {c n e : Nat} (h : c ≤ n * 2 ^ e) (hn : n < 1000) : c < 2 ^ (e + 10) := by
  have p := Nat.two_pow_pos e
  rw [Nat.pow_add]
  have h1 : n * 2 ^ e ≤ 999 * 2 ^ e := Nat.mul_le_mul_right _ (by omega)
  have h2 : 999 * 2 ^ e < 2 ^ e * 2 ^ 10 := by
    rw [Nat.mul_comm (2 ^ e)]
    exact Nat.mul_lt_mul_of_pos_right (by decide) p
  omega
end Vx
namespace Vx
open PySem PySem.Spec PyProof.Rows L2
theorem canLay_rw (qs : List Rat) : PyData.canLayAll0 (qs.map dFr) = true := by
  induction qs with
  | nil => rfl
  | cons q qs ih =>
    show (PyData.canLay0 (dFr q) && PyData.canLayAll0 (qs.map dFr)) = true
    rw [ih]
    unfold dFr
    simp [PyData.canLay0, PyData.canLayAll0]
theorem depth_rw (qs : List Rat) : PyData.depthAll (qs.map dFr) ≤ 2 := by
  induction qs with
  | nil => simp [PyData.depthAll]
  | cons q qs ih =>
    simp only [List.map_cons, PyData.depthAll]
    have : (dFr q).depth ≤ 2 := by unfold dFr; simp [PyData.depth, PyData.depthAll]
    omega
theorem shaped_rw (qs : List Rat) : SeqAt.shaped (dRw qs) = true := by
  unfold dRw SeqAt.shaped
  have h1 := canLay_rw qs
  have h2 := depth_rw qs
  rw [Bool.and_eq_true]
  refine ⟨by simpa [PyData.canLay0] using h1, decide_eq_true ?_⟩
  simp only [PyData.depth]
  omega
theorem eqv_rw : ∀ (ps qs : List Rat), PyData.eqvAll (ps.map dFr) (qs.map dFr) = decide (ps = qs)
  | [], [] => rfl
  | [], _ :: _ => by simp [PyData.eqvAll]
  | _ :: _, [] => by simp [PyData.eqvAll]
  | p :: ps, q :: qs => by
    rw [List.map_cons, List.map_cons]
    show (PyData.eqv (dFr p) (dFr q) && PyData.eqvAll (ps.map dFr) (qs.map dFr)) = _
    rw [eqv_fr, eqv_rw ps qs]
    by_cases h1 : p = q
    · by_cases h2 : ps = qs
      · simp [h1, h2]
      · simp [h2]
    · simp [h1]
theorem dp_rwA {K : PySem.W.Frag} {H : Hp} : ∀ {vs : List V} {qs : List Rat}, FrA K H vs qs → DpAll K H vs (qs.map dFr)
  | _, _, .nil => .nil
  | _, _, .cons h t => .cons (dp_fr h) (dp_rwA t)
theorem dp_rw {K : PySem.W.Frag} {H : Hp} {v : V} {qs : List Rat} (h : RwT K H v qs) : Dp K H v (dRw qs) := by
  obtain ⟨a, vs, rfl, s, f⟩ := h
  exact .tup s (dp_rwA f)
theorem rEqD_rw {K : PySem.W.Frag} {H : Hp} {x y : V} {ps qs : List Rat} {Q : VK} (hx : RwT K H x ps) (hy : RwT K H y qs) (h : Q (.bl (decide (ps = qs))) H) : rEqD K x y H Q :=
  ⟨dRw ps, dRw qs, dp_rw hx, dp_rw hy, shaped_rw ps, shaped_rw qs, by
    show Q (.bl (PyData.eqv (.tuple (ps.map dFr)) (.tuple (qs.map dFr)))) H
    rw [show PyData.eqv (.tuple (ps.map dFr)) (.tuple (qs.map dFr)) = PyData.eqvAll (ps.map dFr) (qs.map dFr) from rfl, eqv_rw]
    exact h⟩
theorem rNeD_rw {K : PySem.W.Frag} {H : Hp} {x y : V} {ps qs : List Rat} {Q : VK} (hx : RwT K H x ps) (hy : RwT K H y qs) (h : Q (.bl (!decide (ps = qs))) H) : rNeD K x y H Q :=
  ⟨dRw ps, dRw qs, dp_rw hx, dp_rw hy, shaped_rw ps, shaped_rw qs, by
    show Q (.bl (!PyData.eqv (.tuple (ps.map dFr)) (.tuple (qs.map dFr)))) H
    rw [show PyData.eqv (.tuple (ps.map dFr)) (.tuple (qs.map dFr)) = PyData.eqvAll (ps.map dFr) (qs.map dFr) from rfl, eqv_rw]
    exact h⟩
theorem rwt_nil {K : PySem.W.Frag} {H : Hp} {p : Addr} (h : SqT K H p []) : RwT K H (.ref p) [] := ⟨p, [], rfl, h, .nil⟩
end Vx
namespace Vx
open PySem PySem.Spec PyProof.Rows L2
theorem tifn {c : Prop} [Decidable c] {A B : Prop} (h1 : ¬ c → A) (h2 : c → B) : if (!decide c) = true then A else B := by
  by_cases h : c
  · rw [decide_eq_true h]
    exact h2 h
  · rw [decide_eq_false h]
    exact h1 h
end Vx
namespace Vx
open PySem PySem.Spec PyProof.Rows L2
theorem but_samet {a : Addr} {H H' : Hp} (h : RlAt a H) (b : But a H H') : SameT H H' := fun c o e n => by
  obtain ⟨x, y, z, ea⟩ := h
  refine b c o e fun q => ?_
  rw [q, ea] at e
  cases e
  exact n _ rfl
theorem same_rl {a : Addr} {H H' : Hp} (h : RlAt a H) (s : Same H H') : RlAt a H' := by
  obtain ⟨x, y, z, e⟩ := h
  exact ⟨x, y, z, s _ _ e⟩
theorem getD_pad (l : List Rat) (n i : Nat) : (l ++ List.replicate n 0).getD i 0 = l.getD i 0 := by
  rw [List.getD_eq_getElem?_getD, List.getD_eq_getElem?_getD]
  by_cases h : i < l.length
  · rw [List.getElem?_append_left h]
  · rw [List.getElem?_append_right (by omega), List.getElem?_eq_none (show l.length ≤ i by omega), List.getElem?_replicate]
    split <;> rfl
theorem getD_mem_or {l : List Rat} (i : Nat) : l.getD i 0 ∈ l ∨ l.getD i 0 = 0 := by
  rw [List.getD_eq_getElem?_getD]
  by_cases h : i < l.length
  · left
    rw [List.getElem?_eq_getElem h]
    exact List.getElem_mem h
  · right
    rw [List.getElem?_eq_none (by omega)]
    rfl
theorem qs_getD {b : Nat} {l : List Rat} (h : Qs b l) (hb : 0 < b) (i : Nat) : Qz b (l.getD i 0) := by
  rcases getD_mem_or (l := l) i with z | z
  · exact h _ z
  · rw [z]
    exact qz0 hb
theorem Al.set {R : V → Rat → Prop} {vs : List V} {qs : List Rat} (h : Al R vs qs) (k : Nat) {v : V} {q : Rat} (r : R v q) : Al R (vs.set k v) (qs.set k q) := by
  induction h generalizing k with
  | nil => exact .nil
  | cons h t ih =>
    cases k with
    | zero => exact .cons r t
    | succ k => exact .cons h (ih k)
theorem ixN_nat {n i : Nat} (h : i < n) : ixN n (i : Int) = some i := by
  unfold ixN
  rw [if_pos (by omega)]
  show (if _ then _ else _) = _
  rw [if_pos (by omega)]
  exact congrArg some (by omega)
theorem rw_take_succ {qs : List Rat} {i : Nat} {q : Rat} (h : qs[i]? = some q) (x : Rat) : ev (qs.take (i + 1)) x = ev (qs.take i) x + q * x ^ i := by
  have hi := (List.getElem?_eq_some_iff.mp h).1
  rw [List.take_add_one, h, ev_append]
  have e : (qs.take i).length = i := by rw [List.length_take]; omega
  rw [e]
  show _ + x ^ i * (q + x * 0) = _
  grind
end Vx
namespace Vx
open PySem PySem.Spec PyProof.Rows L2
theorem rSlA_take {K : PySem.W.Frag} {H : Hp} {x : V} {qs : List Rat} {m : Nat} {Q : VK} (h : RwT K H x qs) (hm : m ≤ qs.length) (q : ∀ v H', Same H H' → RwT K H' v (qs.take m) → Q v H') : rSlA K x none (some (m : Int)) H Q := by
  obtain ⟨a, us, rfl, ha, hA⟩ := h
  have hL := hA.length
  refine ⟨a, us, rfl, ha, fun hw => ?_, fun hw p hp => ?_⟩
  · have h2 := hw.2
    rw [HT.sIx_nat, Nat.min_eq_left (by omega)] at h2
    rw [List.take_of_length_le (show qs.length ≤ m by omega)] at q
    exact q _ H (Same.refl _) ⟨a, us, rfl, ha, hA⟩
  · rw [cutV_take (by omega)]
    exact q _ _ (same_new hp) ⟨p, us.take m, rfl, SqT.of upd_same, fra_mono (same_t (same_new hp)) (hA.take m)⟩
theorem rSlA_drop {K : PySem.W.Frag} {H : Hp} {x : V} {qs : List Rat} {m : Nat} {Q : VK} (h : RwT K H x qs) (hm : m ≤ qs.length) (q : ∀ v H', Same H H' → RwT K H' v (qs.drop m) → Q v H') : rSlA K x (some (m : Int)) none H Q := by
  obtain ⟨a, us, rfl, ha, hA⟩ := h
  have hL := hA.length
  refine ⟨a, us, rfl, ha, fun hw => ?_, fun hw p hp => ?_⟩
  · have h2 := hw.1
    rw [HT.sIx_nat, Nat.min_eq_left (by omega)] at h2
    subst h2
    exact q _ H (Same.refl _) ⟨a, us, rfl, ha, hA⟩
  · have e : cutV us (some (m : Int)) none = us.drop m := by
      unfold cutV
      rw [HT.sIx_none, HT.sIx_nat, Nat.min_eq_left (by omega), List.take_of_length_le (by rw [List.length_drop]; exact Nat.le_refl _)]
    rw [e]
    exact q _ _ (same_new hp) ⟨p, us.drop m, rfl, SqT.of upd_same, fra_mono (same_t (same_new hp)) (hA.drop m)⟩
theorem rCatA_rw {K : PySem.W.Frag} {H : Hp} {x y : V} {ps qs : List Rat} {Q : VK} (hx : RwT K H x ps) (hy : RwT K H y qs) (hz : ps.length + qs.length ≤ 10000) (q : ∀ v H', Same H H' → RwT K H' v (ps ++ qs) → Q v H') : rCatA K x y H Q := by
  obtain ⟨a, us, rfl, ha, hA⟩ := hx
  obtain ⟨b, vs, rfl, hb, hB⟩ := hy
  have hL := hA.length
  have hM := hB.length
  refine ⟨a, b, us, vs, rfl, rfl, ha, hb, by rw [sizeLine_eq]; omega, fun e => ?_, fun e1' e2 => ?_, fun e1' e2 p hp => ?_⟩
  · rw [e] at hL
    have e3 : ps = [] := List.eq_nil_of_length_eq_zero hL.symm
    rw [e3] at q
    exact q _ _ (Same.refl _) ⟨b, vs, rfl, hb, hB⟩
  · rw [e2] at hM
    have e3 : qs = [] := List.eq_nil_of_length_eq_zero hM.symm
    rw [e3, List.append_nil] at q
    exact q _ _ (Same.refl _) ⟨a, us, rfl, ha, hA⟩
  · exact q _ _ (same_new hp) ⟨p, us ++ vs, rfl, SqT.of upd_same, (fra_mono (same_t (same_new hp)) hA).append (fra_mono (same_t (same_new hp)) hB)⟩
theorem Al.one {R : V → Rat → Prop} {v : V} {q : Rat} (h : R v q) : Al R [v] [q] := .cons h .nil
end Vx
namespace Vx
open PySem PySem.Spec PyProof.Rows L2
theorem showA_rw : ∀ (qs : List Rat), Qs 1900 qs → PyData.showableAll (qs.map dFr) = true
  | [], _ => rfl
  | q :: qs, h => by
    have hq := h q List.mem_cons_self
    have ih := showA_rw qs fun c hc => h c (List.mem_cons_of_mem _ hc)
    have l1 : q.num.natAbs.log2 < 1920 := Nat.lt_of_lt_of_le (log_lt (by decide) hq.1) (by decide)
    have l2 : q.den.log2 < 1920 := Nat.lt_of_lt_of_le (log_lt (by decide) hq.2) (by decide)
    rw [List.map_cons]
    simp only [PyData.showableAll, ih, Bool.and_true]
    unfold dFr
    simp [PyData.showable, PyData.showableAll, l1, l2]
theorem costs_fr : ∀ (qs : List Rat), costs (qs.map dFr) = 3853 * qs.length
  | [] => rfl
  | q :: qs => by
    rw [List.map_cons]
    show cost (dFr q) + 2 + costs (qs.map dFr) = _
    rw [costs_fr qs, List.length_cons]
    show 3851 + 2 + _ = _
    omega
theorem okd_frs {qs : List Rat} (h : Qs 1900 qs) (hl : qs.length ≤ 1000) : Okd (.list (qs.map dFr)) := by
  refine ⟨by simpa [PyData.showable] using showA_rw qs h, ?_, ?_⟩
  · have := depth_rw qs
    simp only [PyData.depth]
    omega
  · show costs (qs.map dFr) + 2 ≤ _
    rw [costs_fr]
    omega
def RwOk (r : List Rat) : Prop := Qs 1900 r ∧ r.length ≤ 60
theorem okd_rws {rs : List (List Rat)} (h : ∀ r ∈ rs, RwOk r) (hl : rs.length ≤ 20) : Okd (.list (rs.map dRw)) := by
  have h1 : ∀ rs : List (List Rat), (∀ r ∈ rs, RwOk r) → PyData.showableAll (rs.map dRw) = true := by
    intro rs
    induction rs with
    | nil => intro _; rfl
    | cons r rs ih =>
      intro h
      rw [List.map_cons]
      simp only [PyData.showableAll, ih fun c hc => h c (List.mem_cons_of_mem _ hc), Bool.and_true]
      unfold dRw
      simpa [PyData.showable] using showA_rw r (h r List.mem_cons_self).1
  have h2 : ∀ rs : List (List Rat), (∀ r ∈ rs, RwOk r) → costs (rs.map dRw) ≤ 231200 * rs.length := by
    intro rs
    induction rs with
    | nil => intro _; exact Nat.zero_le _
    | cons r rs ih =>
      intro h
      rw [List.map_cons, List.length_cons]
      show cost (dRw r) + 2 + costs (rs.map dRw) ≤ _
      have i1 := ih fun c hc => h c (List.mem_cons_of_mem _ hc)
      have i2 : cost (dRw r) = 3853 * r.length + 3 := by
        show costs (r.map dFr) + 3 = _
        rw [costs_fr]
      have i3 := (h r List.mem_cons_self).2
      omega
  have h3 : ∀ rs : List (List Rat), PyData.depthAll (rs.map dRw) ≤ 3 := by
    intro rs
    induction rs with
    | nil => simp [PyData.depthAll]
    | cons r rs ih =>
      simp only [List.map_cons, PyData.depthAll]
      have : (dRw r).depth ≤ 3 := by
        have := depth_rw r
        unfold dRw
        simp only [PyData.depth]
        omega
      omega
  refine ⟨by simpa [PyData.showable] using h1 rs h, ?_, ?_⟩
  · have := h3 rs
    simp only [PyData.depth]
    omega
  · show costs (rs.map dRw) + 2 ≤ _
    have := h2 rs h
    omega
theorem fold_le {l n a : Nat} (h : l ≤ n) : l * a ≤ n * a := Nat.mul_le_mul_right a h
end Vx
namespace Vx
open PySem PySem.Spec PyProof.Rows L2
theorem tab_mono {H H' : Hp} {tb : Addr} (e : SameT H H') (h : H tb = some (tabX tb)) : H' tb = some (tabX tb) := e _ _ h fun xs z => by
  unfold tabX at z
  cases z
theorem ne_str_same {A B : Prop} {x : Str} (h : B) : if (!decide (V.str x = V.str x)) = true then A else B := by
  rw [decide_eq_true rfl]
  exact h
end Vx
namespace Vx
open PySem PySem.Spec PyProof.Rows L2
section
variable {X : Cx}
def ipMulX : TIp := fun x y H Q => ∃ i j, x = .int i ∧ y = .int j ∧ CMulX i j ∧ Q (.int (i * j)) H
theorem ip_mulX : PIp X .Mult ipMulX := by
  intro pins s σ H x y v u Q I r1 r2 h
  obtain ⟨i, j, e1, e2, c, q⟩ := h
  subst e1; subst e2
  obtain ⟨t, rfl⟩ := r1
  obtain ⟨t', rfl⟩ := r2
  exact imul_int ⟨.int _, H, I.tok _, ⟨_, rfl⟩, q⟩ c.ok
end
/-! ### products of rows, as rows -/
def pmul : List Rat → List Rat → List Rat
  | [], _ => []
  | [x], b => b.map (x * ·)
  | x :: y :: a, b => ladd (b.map (x * ·)) (0 :: pmul (y :: a) b)
theorem ev_pmul : ∀ (a b : List Rat) (z : Rat), ev (pmul a b) z = ev a z * ev b z
  | [], b, z => by
    show (0 : Rat) = 0 * ev b z
    grind
  | [x], b, z => by
    show ev (b.map (x * ·)) z = (x + z * 0) * ev b z
    rw [ev_scale]
    grind
  | x :: y :: a, b, z => by
    show ev (ladd (b.map (x * ·)) (0 :: pmul (y :: a) b)) z = (x + z * ev (y :: a) z) * ev b z
    rw [ev_ladd, ev_scale]
    show x * ev b z + (0 + z * ev (pmul (y :: a) b) z) = _
    rw [ev_pmul (y :: a) b z]
    grind
theorem ladd_length : ∀ (a b : List Rat), (ladd a b).length = max a.length b.length
  | [], b => by show b.length = max 0 b.length; omega
  | c :: a, [] => by show (c :: a).length = max (c :: a).length 0; omega
  | c :: a, d :: b => by
    show (ladd a b).length + 1 = max (a.length + 1) (b.length + 1)
    rw [ladd_length a b]
    omega
theorem ladd_last : ∀ (a b : List Rat) (hb : b ≠ []) (h : a.length < b.length) (hn : ladd a b ≠ []), (ladd a b).getLast hn = b.getLast hb
  | [], b, hb, h, hn => rfl
  | c :: a, [], hb, h, hn => absurd rfl hb
  | c :: a, [d], hb, h, hn => absurd h (by simp)
  | c :: a, d :: e :: b, hb, h, hn => by
    have h1 : a.length < (e :: b).length := by simpa using h
    have hn1 : ladd a (e :: b) ≠ [] := fun z => by
      have := congrArg List.length z
      rw [ladd_length, List.length_nil] at this
      simp at this
    show (((c + d) :: ladd a (e :: b)).getLast _) = _
    rw [List.getLast_cons hn1, List.getLast_cons (List.cons_ne_nil e b)]
    exact ladd_last a (e :: b) (List.cons_ne_nil _ _) h1 hn1
theorem pmul_shape : ∀ (a b : List Rat) (ha : a ≠ []) (hb : b ≠ []), (pmul a b).length + 1 = a.length + b.length ∧ ∀ hn : pmul a b ≠ [], (pmul a b).getLast hn = a.getLast ha * b.getLast hb
  | [], b, ha, hb => absurd rfl ha
  | [x], b, ha, hb => by
    refine ⟨?_, fun hn => ?_⟩
    · show (b.map (x * ·)).length + 1 = 1 + b.length
      rw [List.length_map]
      omega
    · have e : ∀ (hm : b.map (x * ·) ≠ []), (b.map (x * ·)).getLast hm = x * b.getLast hb := fun hm => by rw [List.getLast_map]
      exact e hn
  | x :: y :: a, b, ha, hb => by
    obtain ⟨l, g⟩ := pmul_shape (y :: a) b (List.cons_ne_nil _ _) hb
    have lb : 0 < b.length := List.length_pos_iff.mpr hb
    have hp : 0 < (pmul (y :: a) b).length := by
      have : (y :: a).length = a.length + 1 := rfl
      omega
    have hpn : pmul (y :: a) b ≠ [] := List.length_pos_iff.mp hp
    refine ⟨?_, fun hn => ?_⟩
    · show (ladd (b.map (x * ·)) (0 :: pmul (y :: a) b)).length + 1 = _
      have e1 := ladd_length (b.map (x * ·)) (0 :: pmul (y :: a) b)
      rw [List.length_map, List.length_cons] at e1
      have e2 : (x :: y :: a).length = a.length + 1 + 1 := rfl
      have e3 : (y :: a).length = a.length + 1 := rfl
      omega
    · have h1 : (b.map (x * ·)).length < (0 :: pmul (y :: a) b).length := by
        rw [List.length_map, List.length_cons]
        have : (y :: a).length = a.length + 1 := rfl
        omega
      have := ladd_last (b.map (x * ·)) (0 :: pmul (y :: a) b) (List.cons_ne_nil _ _) h1 hn
      show (ladd (b.map (x * ·)) (0 :: pmul (y :: a) b)).getLast hn = _
      rw [this, List.getLast_cons hpn, g hpn, List.getLast_cons (List.cons_ne_nil y a)]
theorem tr_pmul {a b : List Rat} (ha : Tr a) (hb : Tr b) (hna : a ≠ []) (hnb : b ≠ []) : Tr (pmul a b) := fun hn => by
  rw [(pmul_shape a b hna hnb).2 hn]
  have h1 := ha hna
  have h2 := hb hnb
  grind
/-- a row of fewer numbers is no product with a row, but nought -/
theorem no_small {a b s : List Rat} (ha : Tr a) (hb : Tr b) (hnb : b ≠ []) (hs : Tr s) (hl : s.length < b.length) (h : ∀ z, ev a z * ev b z = ev s z) : a = [] := by
  refine Classical.byContradiction fun hna => ?_
  have e : pmul a b = s := ev_inj (tr_pmul ha hb hna hnb) hs fun z => by rw [ev_pmul, h]
  have l := (pmul_shape a b hna hnb).1
  rw [e] at l
  have : 0 < a.length := List.length_pos_iff.mpr hna
  omega
/-- the row of any numbers -/
theorem trim_ex (l : List Rat) : ∃ t : List Rat, Tr t ∧ t.length ≤ l.length ∧ ∀ z, ev t z = ev l z := by
  induction l with
  | nil => exact ⟨[], tr_nil, Nat.le_refl _, fun _ => rfl⟩
  | cons c l ih =>
    obtain ⟨t, h1, h2, h3⟩ := ih
    by_cases ht : t = []
    · subst ht
      by_cases hc : c = 0
      · refine ⟨[], tr_nil, Nat.zero_le _, fun z => ?_⟩
        show (0 : Rat) = c + z * ev l z
        rw [← h3, hc]
        show (0 : Rat) = 0 + z * 0
        grind
      · refine ⟨[c], fun _ => hc, by simp, fun z => ?_⟩
        show c + z * 0 = c + z * ev l z
        rw [← h3]
        rfl
    · refine ⟨c :: t, fun hn => ?_, by simpa using h2, fun z => ?_⟩
      · rw [List.getLast_cons ht]
        exact h1 ht
      · show c + z * ev t z = c + z * ev l z
        rw [h3]
/-- quotient and rest are the only ones -/
theorem div_unique {d q r q' r' : List Rat} (hd : Tr d) (hnd : d ≠ []) (hq : Tr q) (hq' : Tr q') (hr : Tr r) (hr' : Tr r') (hl : r.length < d.length) (hl' : r'.length < d.length)
    (h : ∀ z, ev q z * ev d z + ev r z = ev q' z * ev d z + ev r' z) : q = q' ∧ r = r' := by
  obtain ⟨a, a1, _, a3⟩ := trim_ex (ladd q (q'.map ((-1 : Rat) * ·)))
  obtain ⟨s, s1, s2, s3⟩ := trim_ex (ladd r' (r.map ((-1 : Rat) * ·)))
  have la : s.length < d.length := by
    rw [ladd_length, List.length_map] at s2
    omega
  have e := no_small a1 hd hnd s1 la fun z => by
    rw [a3, s3, ev_ladd, ev_ladd, ev_scale, ev_scale]
    have := h z
    grind
  subst e
  have hqq : q = q' := ev_inj hq hq' fun z => by
    have := a3 z
    rw [ev_ladd, ev_scale] at this
    have z0 : ev [] z = 0 := rfl
    rw [z0] at this
    grind
  refine ⟨hqq, ev_inj hr hr' fun z => ?_⟩
  have := h z
  rw [hqq] at this
  grind
end Vx
namespace Vx
open PySem PySem.Spec PyProof.Rows L2
local macro_rules | `(tactic| walk_at "cl") => `(tactic| first | rfl | assumption | omega | exact sz_of 0 rfl (by decide) | exact sz_of 1 rfl (by decide) | exact sz_of 2 rfl (by decide) | exact sz_of 3 rfl (by decide) | exact cmulx (by assumption) (by assumption) (by decide) | exact Bz.mono (Bz.mul (by assumption) (by assumption)) (by decide) | decide)
local macro_rules | `(tactic| walk_at "ex") => `(tactic| ((show Exists _); first | apply @Exists.intro V | apply @Exists.intro Int | apply @Exists.intro Addr | apply @Exists.intro (List V) | apply @Exists.intro Nat | apply @Exists.intro Str | apply @Exists.intro Bool | apply @Exists.intro (Option V) | apply @Exists.intro String | apply @Exists.intro Rat | apply @Exists.intro (List Rat)))
local macro_rules | `(tactic| walk_at "rd") => `(tactic| ((repeat (first | (walk_at "ex") | (apply And.intro; (focus (walk_at "cl"))))); (try dsimp only [])))
local macro_rules | `(tactic| walk_at "r0") => `(tactic| (repeat (first | (walk_at "ex") | (apply And.intro; (focus (walk_at "cl"))))))

/-- the built-in names -/
structure Blt (mg : Str → Option Value) : Prop extends Bls mg where
  n_type : mg "type" = none
  n_tuple : mg "tuple" = none
  n_list : mg "list" = none
  n_zip : mg "zip" = none
  n_enumerate : mg "enumerate" = none
  n_reversed : mg "reversed" = none
  g_gcd : mg "gcd" = some (.builtin "math.gcd")
section
variable {Pr : Program} {w : World} {K : PySem.W.Frag} {mg : Str → Option Value}
/-- is_whole of an int -/
theorem lw_whole {f : Addr} {fd : FuncData} (F : Fun K "is_whole" "is_whole" s_is_whole f fd) (T : Blt mg) {A : Around} {s : Shared} {args : Args} {i : Int} {t : Tok} (M : L2.Mod K mg s.heap) (hroom : A.depth < recursionLimit) (hbd : BindsTo s fd args [("value", .int i t)]) :
    codeAny (model Pr w) A (.call (.ref f) args) (fun r s' => r = .ok (.ret (.bool true)) ∧ Keeps s s') s := by
  obtain ⟨oc, od, kV, doc, pm, an, cdv, ct, osl, rfl, lk, hcd⟩ := F.ex
  refine Att.call_fn (binds := [("value", .int i t)]) M.kin M.nolimit lk hcd hroom hbd (by first | rfl | decide | with_unfolding_all rfl) (fun s₁ IC => ?_) rfl rfl rfl
  obtain ⟨h₁, tk₁, rfl⟩ := IC.toInCall.same
  have k : ∀ b o, s.heap.get? b = some o → h₁.get? b = some o := IC.toInCall.keep
  have hn := IC.toInCall.ns
  have M1 : L2.Mod K mg h₁ := mod_keeps M k
  show wpAny _ _ (execs _ _) _ _ _
  refine wpAny_execs_cons (wpAny_Return_some (wpAny_Compare1 (Call_Name1 (lw_blt M1.glob T.n_type M1.blt (v := .type "type") (by rfl) (callWith_type1 (lw_loc hn (v := .int i t) (by rfl) ?_)))  )))
  refine call_type_of (typeIs_int _ i t) (by decide +kernel) ?_
  refine lw_blt M1.glob T.n_int M1.blt (v := .type "int") (by rfl) ?_
  exact wpAny_is_self rfl ⟨rfl, ⟨_, _, rfl, k⟩⟩
end
section
variable {Pr : Program} {w : World} {K : PySem.W.Frag} {mg : Str → Option Value}
/-- is_fraction of a tuple of two ints -/
theorem lw_frac {f fw : Addr} {fd fdw : FuncData} (F : Fun K "is_fraction" "is_fraction" s_is_fraction f fd) (Fw : Fun K "is_whole" "is_whole" s_is_whole fw fdw) (hw : mg "is_whole" = some (.ref fw)) (T : Blt mg) {A : Around} {s : Shared} {args : Args} {a : Addr} {i j : Int} {t u : Tok}
    (M : L2.Mod K mg s.heap) (hT : s.heap.IsTuple a #[.int i t, .int j u]) (hh : A.handled = none) (hroom : A.depth + 1 < recursionLimit) (hbd : BindsTo s fd args [("value", .ref a)]) (bW : ∀ (s : Shared) (v : Value), K.In s.heap → BindsTo s fdw ⟨[v], []⟩ [("value", v)]) :
    codeAny (model Pr w) A (.call (.ref f) args) (fun r s' => r = .ok (.ret (.bool (decide (0 < j) && ((i.natAbs.gcd j.natAbs : Nat) : Int) == 1))) ∧ Keeps s s') s := by
  obtain ⟨oc, od, kV, doc, pm, an, cdv, ct, osl, rfl, lk, hcd⟩ := F.ex
  refine Att.call_fn (binds := [("value", .ref a)]) M.kin M.nolimit lk hcd (Nat.lt_of_succ_lt hroom) hbd (by first | rfl | decide | with_unfolding_all rfl) (fun s₁ IC => ?_) rfl rfl rfl
  obtain ⟨h₁, tk₁, rfl⟩ := IC.toInCall.same
  have k : ∀ b o, s.heap.get? b = some o → h₁.get? b = some o := IC.toInCall.keep
  have hn := IC.toInCall.ns
  have M1 : L2.Mod K mg h₁ := mod_keeps M k
  have hT1 : h₁.IsTuple a #[.int i t, .int j u] := by
    obtain ⟨o, e, r⟩ := hT
    exact ⟨o, k _ _ e, r⟩
  have hhd : (A.deeper (envOfC "is_fraction" (defScope s_is_fraction) s.heap.objs.size f cdv)).handled = none := hh
  have hrm : (A.deeper (envOfC "is_fraction" (defScope s_is_fraction) s.heap.objs.size f cdv)).depth < recursionLimit := hroom
  generalize hL : s.heap.objs.size = L at *
  have nL : ∀ b o, s.heap.get? b = some o → b ≠ L := fun b o e z => by
    have := Heap.lt_size e
    rw [hL, z] at this
    exact Nat.lt_irrefl _ this
  show wpAny _ _ (execs _ _) _ _ _
  refine wpAny_execs_cons (wpAny_If (isTrue_or (wpAny_isTrue_Compare1 (Call_Name1 (lw_blt M1.glob T.n_type M1.blt (v := .type "type") (by rfl) (callWith_type1 (lw_loc hn (v := .ref a) (by rfl) ?_)))))))
  refine call_type_of hT1.typeIs (by decide +kernel) ?_
  refine lw_blt M1.glob T.n_tuple M1.blt (v := .type "tuple") (by rfl) ?_
  refine wpAny_isNot_self rfl (wpAny_truthy_bool ?_)
  show wpAny _ _ _ _ _ _
  refine isTrue_or (wpAny_isTrue_Compare1 (Call_Name1 (lw_blt M1.glob T.n_len M1.blt (v := .builtin "len") (by rfl) (callWith_builtin1 (lw_loc hn (v := .ref a) (by rfl) ?_)))))
  refine PyProof.Rows.len_tuple hT1 (by show (2 : Int) < 2 ^ 63; decide) ?_
  refine wpAny_Constant_int (PySem.P.ne_int (wpAny_truthy_bool ?_))
  show wpAny _ _ _ _ _ _
  refine isTrue_or_nil ?_
  show wpAny _ _ _ _ _ _
  refine wpAny_execs_nil ?_
  show wpAny _ _ _ _ _ _
  -- number, under = value
  refine wpAny_execs_cons (Assign_Tuple (lw_loc hn (v := .ref a) (by rfl) (assign_Tuple_tuple hhd hT1 rfl rfl fun h₂ hx => ?_)))
  have k2 : ∀ b o, h₁.get? b = some o → h₂.get? b = some o := fun b o e => hx b o (Nat.ne_of_lt (Heap.lt_size e)) e
  have hn2 := hn.keeps k2
  show wpAny _ _ (do holding [Value.int j u] _; _) _ _ _
  refine wpAny_bind (wpAny_holding ?_)
  show wpAny _ _ (do standAt _; bindName _ _ _) _ _ _
  refine wpAny_bind (wpAny_standAt (wpAny_bindName (wpAny_storeName_local rfl hn2 fun h₃ hn3 sb3 => ?_)))
  show wpAny _ _ (do holding [] _; _) _ _ _
  refine wpAny_bind (wpAny_holding ?_)
  show wpAny _ _ (do standAt _; bindName _ _ _) _ _ _
  refine wpAny_bind (wpAny_standAt (wpAny_bindName (wpAny_storeName_local rfl hn3 fun h₄ hn4 sb4 => ?_)))
  show wpAny _ _ (pure ()) _ _ _
  refine wpAny_pure ?_
  show wpAny _ _ (execs _ _) _ _ _
  have k4 : ∀ b o, s.heap.get? b = some o → h₄.get? b = some o := fun b o e => sb4.extBut b o (nL b o e) (sb3.extBut b o (nL b o e) (k2 b o (k b o e)))
  have M4 : L2.Mod K mg h₄ := mod_keeps M k4
  -- return ..
  refine wpAny_execs_cons (wpAny_Return_some (BoolOp_and ?_))
  refine wpAny_Call_Name_kw (lw_glob M4.glob hw ?_)
  refine PySem.W.callWith_K (h₀ := s.heap) M.kin Fw.kp (Calls.spliced_cons (lw_loc hn4 (v := .int i t) (by rfl) (Calls.spliced_nil ⟨M4.kin, ?_⟩)))
  refine wpAny_call (codeAny_mono (lw_whole Fw T M4 hrm (bW _ _ M4.kin)) fun r s5 hr => ?_)
  obtain ⟨rfl, h₅, tk5, rfl, k5⟩ := hr
  refine wpAny_truthy_bool ?_
  show wpAny _ _ _ _ _ _
  have M5 : L2.Mod K mg h₅ := mod_keeps M4 k5
  have hn5 := hn4.keeps k5
  refine BoolOp_and ?_
  refine wpAny_Call_Name_kw (lw_glob M5.glob hw ?_)
  refine PySem.W.callWith_K (h₀ := s.heap) M.kin Fw.kp (Calls.spliced_cons (lw_loc hn5 (v := .int j u) (by rfl) (Calls.spliced_nil ⟨M5.kin, ?_⟩)))
  refine wpAny_call (codeAny_mono (lw_whole Fw T M5 hrm (bW _ _ M5.kin)) fun r s6 hr => ?_)
  obtain ⟨rfl, h₆, tk6, rfl, k6⟩ := hr
  refine wpAny_truthy_bool ?_
  show wpAny _ _ _ _ _ _
  have M6 : L2.Mod K mg h₆ := mod_keeps M5 k6
  have hn6 := hn5.keeps k6
  have kk : ∀ b o, s.heap.get? b = some o → h₆.get? b = some o := fun b o e => k6 b o (k5 b o (k4 b o e))
  refine BoolOp_and (wpAny_Compare1 (lw_loc hn6 (v := .int j u) (by rfl) (wpAny_Constant_int (PySem.P.gt_int (wpAny_truthy_bool ?_)))))
  by_cases hj : (0 : Int) < j
  · rw [decide_eq_true (show j > 0 from hj)]
    show wpAny _ _ _ _ _ _
    refine BoolOp_one (wpAny_Compare1 (wpAny_Call_Name_kw (lw_glob M6.glob T.g_gcd ?_)))
    refine PyProof.Rows.callWith_builtin1 (Calls.spliced_cons (lw_loc hn6 (v := .int i t) (by rfl) (Calls.spliced_cons (lw_loc hn6 (v := .int j u) (by rfl) (Calls.spliced_nil ?_))))) rfl rfl
    refine PySem.W.mg_gcd fun _ => ?_
    refine wpAny_Constant_int (PySem.P.eq_int ?_)
    exact ⟨by simp, _, _, rfl, kk⟩
  · rw [decide_eq_false (show ¬ j > 0 from hj)]
    exact ⟨by simp, _, _, rfl, kk⟩
end

end Vx
namespace Vx
open PySem PySem.Spec PyProof.Rows L2
local macro_rules | `(tactic| walk_at "cl") => `(tactic| first | rfl | assumption | omega | exact sz_of 0 rfl (by decide) | exact sz_of 1 rfl (by decide) | exact sz_of 2 rfl (by decide) | exact sz_of 3 rfl (by decide) | exact cmulx (by assumption) (by assumption) (by decide) | exact Bz.mono (Bz.mul (by assumption) (by assumption)) (by decide) | decide)
local macro_rules | `(tactic| walk_at "ex") => `(tactic| ((show Exists _); first | apply @Exists.intro V | apply @Exists.intro Int | apply @Exists.intro Addr | apply @Exists.intro (List V) | apply @Exists.intro Nat | apply @Exists.intro Str | apply @Exists.intro Bool | apply @Exists.intro (Option V) | apply @Exists.intro String | apply @Exists.intro Rat | apply @Exists.intro (List Rat)))
local macro_rules | `(tactic| walk_at "rd") => `(tactic| ((repeat (first | (walk_at "ex") | (apply And.intro; (focus (walk_at "cl"))))); (try dsimp only [])))
local macro_rules | `(tactic| walk_at "r0") => `(tactic| (repeat (first | (walk_at "ex") | (apply And.intro; (focus (walk_at "cl"))))))

section
variable {X : Cx}
theorem ps_absurd {st : Stmt} : PS X st (fun _ _ _ => False) := ⟨fun _ _ _ _ _ _ h => h.elim⟩
end
/-- the constant NIL -/
structure NilC (K : PySem.W.Frag) (mg : Str → Option Value) (aN : Addr) : Prop where
  g : mg "NIL" = some (.ref aN)
  sq : ∀ H : Hp, SqT K H aN [.int 0, .int 1]
theorem NilC.fr {K : PySem.W.Frag} {mg : Str → Option Value} {aN : Addr} (h : NilC K mg aN) (H : Hp) : FrT K H (.ref aN) 0 := ⟨aN, rfl, h.sq H⟩
section
variable {P : Program} {w : World} {K : PySem.W.Frag} {mg : Str → Option Value} {base : Heap}
/-- ratio: n / m in lowest terms -/
def spRatio (K : PySem.W.Frag) : Sp := fun vs H Q _ => ∃ n m : Int, vs = [.int n, .int m] ∧ m ≠ 0 ∧ Bz 8000 m ∧ ∀ v H', Same H H' → FrT K H' v (Rat.divInt n m) → Q v H'
theorem sc_ratio : FnScope ["number", "under", "part"] ["number", "under"] (defScope s_ratio) := ⟨rfl, rfl, rfl, by decide +kernel, rfl, by decide +kernel, by decide +kernel⟩
theorem d_ratio (W : FunIn K mg "ratio" s_ratio) (T : Blt mg) : Df P w K mg base "ratio" 1 ["number", "under"] (spRatio K) := by
  obtain ⟨f, fd, F, hm⟩ := W
  refine ⟨f, fd, F.ok sc_ratio (fun vs H Q E h => ?_) (fun cdv A outer s H vs Q E hr h => ?_), hm, F.kp, F.binds fun _ _ _ _ _ _ us hl => match us, hl with | [_, _], _ => rfl⟩
  · obtain ⟨n, m, rfl, _⟩ := h
    rfl
  · obtain ⟨n, m, rfl, hm0, hmz, q⟩ := h
    have nd := sc_ratio.nd
    refine ⟨_, (pss_cons (ps_set (i := 2) nd rfl (Or.inl rfl) (pe_callBfun cr_gcd (by rfl) T.g_gcd (pa_cons (pv 0) (pa_cons (pv 1) pa_nil))))
        (pss_cons (ps_if (pt_cmpR op_lt (pv 1) pe_int (nomark _)) (pss_one (ps_set (i := 2) nd rfl (Or.inl rfl) (pe_un un_neg (pv 2)))) pss_nil)
        (pss_one (ps_ret (pe_tup (pa_cons (pe_op op_fdivX (pv 0) (pv 2)) (pa_cons (pe_op op_fdivX (pv 1) (pv 2)) pa_nil))))))), ?_⟩
    have hg : ((n.natAbs.gcd m.natAbs : Nat) : Int) ≠ 0 := by
      have := Nat.gcd_pos_of_pos_right n.natAbs (show 0 < m.natAbs by omega)
      omega
    have hgz : Bz 8000 ((n.natAbs.gcd m.natAbs : Nat) : Int) := by
      unfold Bz
      rw [Int.natAbs_natCast]
      exact Nat.lt_of_le_of_lt (Nat.gcd_le_right _ (by omega)) hmz
    have fin : ∀ p, H p = none → Q (.ref p) (upd H p (.tup [.int (Rat.divInt n m).num, .int (Rat.divInt n m).den])) := fun p hp => q _ _ (same_new hp) ⟨p, rfl, SqT.of upd_same⟩
    walk_at "rd"
    refine tif (fun hneg => ?_) (fun hpos => ?_)
    · obtain ⟨e1, e2⟩ := fr_neg (n := n) hneg
      have c1 : ∀ i : Int, CDivX i (-((n.natAbs.gcd m.natAbs : Nat) : Int)) := fun i => cdivx (by omega) (by unfold Bz; rw [Int.natAbs_neg]; exact hgz) (by decide)
      have c2 := c1 n
      have c3 := c1 m
      walk_at "rd"
      rw [e1, e2]
      exact fin
    · obtain ⟨e1, e2⟩ := fr_pos_f (n := n) (show 0 < m by omega)
      have c1 : ∀ i : Int, CDivX i ((n.natAbs.gcd m.natAbs : Nat) : Int) := fun i => cdivx hg hgz (by decide)
      have c2 := c1 n
      have c3 := c1 m
      walk_at "rd"
      rw [e1, e2]
      exact fin
/-- of two fractions a third -/
def spR2 (K : PySem.W.Frag) (op : Rat → Rat → Rat) : Sp := fun vs H Q _ => ∃ (x y : V) (p q : Rat), vs = [x, y] ∧ FrT K H x p ∧ FrT K H y q ∧ Qz 3900 p ∧ Qz 3900 q ∧ ∀ v H', Same H H' → FrT K H' v (op p q) → Q v H'
theorem sc_ratio_sum : FnScope ["one", "other"] ["one", "other"] (defScope s_ratio_sum) := ⟨rfl, rfl, rfl, by decide +kernel, rfl, by decide +kernel, by decide +kernel⟩
theorem d_ratio_sum (W : FunIn K mg "ratio_sum" s_ratio_sum) (Dratio : Df P w K mg base "ratio" 1 ["number", "under"] (spRatio K)) : Df P w K mg base "ratio_sum" 2 ["one", "other"] (spR2 K (fun p q => p + q)) := by
  obtain ⟨f, fd, F, hm⟩ := W
  refine ⟨f, fd, F.ok sc_ratio_sum (fun vs H Q E h => ?_) (fun cdv A outer s H vs Q E hr h => ?_), hm, F.kp, F.binds fun _ _ _ _ _ _ us hl => match us, hl with | [_, _], _ => rfl⟩
  · obtain ⟨x, y, p, q, rfl, _⟩ := h
    rfl
  · obtain ⟨x, y, p, r, rfl, ⟨a, rfl, ha⟩, ⟨b, rfl, hb⟩, zp, zr, q⟩ := h
    have nd := sc_ratio_sum.nd
    have b1 := zp.n
    have b2 := zp.dd
    have b3 := zr.n
    have b4 := zr.dd
    have hd : (p.den : Int) * (r.den : Int) ≠ 0 := Int.mul_ne_zero (by have := p.den_nz; omega) (by have := r.den_nz; omega)
    refine ⟨_, (pss_one (ps_ret (pe_d Dratio (hr.mono (by decide)) rfl (pa_cons (pe_op op_add (pe_op op_mulX (pe_ix ix_tup (pv 0) pe_int (fun _ _ => rfl)) (pe_ix ix_tup (pv 1) pe_int (fun _ _ => rfl))) (pe_op op_mulX (pe_ix ix_tup (pv 1) pe_int (fun _ _ => rfl)) (pe_ix ix_tup (pv 0) pe_int (fun _ _ => rfl)))) (pa_cons (pe_op op_mulX (pe_ix ix_tup (pv 0) pe_int (fun _ _ => rfl)) (pe_ix ix_tup (pv 1) pe_int (fun _ _ => rfl))) pa_nil))))), ?_⟩
    walk_at "rd"
    rw [fr_add]
    exact q
theorem sc_ratio_less : FnScope ["one", "other"] ["one", "other"] (defScope s_ratio_less) := ⟨rfl, rfl, rfl, by decide +kernel, rfl, by decide +kernel, by decide +kernel⟩
theorem d_ratio_less (W : FunIn K mg "ratio_less" s_ratio_less) (Dratio : Df P w K mg base "ratio" 1 ["number", "under"] (spRatio K)) : Df P w K mg base "ratio_less" 2 ["one", "other"] (spR2 K (fun p q => p - q)) := by
  obtain ⟨f, fd, F, hm⟩ := W
  refine ⟨f, fd, F.ok sc_ratio_less (fun vs H Q E h => ?_) (fun cdv A outer s H vs Q E hr h => ?_), hm, F.kp, F.binds fun _ _ _ _ _ _ us hl => match us, hl with | [_, _], _ => rfl⟩
  · obtain ⟨x, y, p, q, rfl, _⟩ := h
    rfl
  · obtain ⟨x, y, p, r, rfl, ⟨a, rfl, ha⟩, ⟨b, rfl, hb⟩, zp, zr, q⟩ := h
    have nd := sc_ratio_less.nd
    have b1 := zp.n
    have b2 := zp.dd
    have b3 := zr.n
    have b4 := zr.dd
    have hd : (p.den : Int) * (r.den : Int) ≠ 0 := Int.mul_ne_zero (by have := p.den_nz; omega) (by have := r.den_nz; omega)
    refine ⟨_, (pss_one (ps_ret (pe_d Dratio (hr.mono (by decide)) rfl (pa_cons (pe_op op_sub (pe_op op_mulX (pe_ix ix_tup (pv 0) pe_int (fun _ _ => rfl)) (pe_ix ix_tup (pv 1) pe_int (fun _ _ => rfl))) (pe_op op_mulX (pe_ix ix_tup (pv 1) pe_int (fun _ _ => rfl)) (pe_ix ix_tup (pv 0) pe_int (fun _ _ => rfl)))) (pa_cons (pe_op op_mulX (pe_ix ix_tup (pv 0) pe_int (fun _ _ => rfl)) (pe_ix ix_tup (pv 1) pe_int (fun _ _ => rfl))) pa_nil))))), ?_⟩
    walk_at "rd"
    rw [fr_sub]
    exact q
end

end Vx
namespace Vx
open PySem PySem.Spec PyProof.Rows L2
local macro_rules | `(tactic| walk_at "cl") => `(tactic| first | rfl | assumption | omega | exact sz_of 0 rfl (by decide) | exact sz_of 1 rfl (by decide) | exact sz_of 2 rfl (by decide) | exact sz_of 3 rfl (by decide) | exact cmulx (by assumption) (by assumption) (by decide) | exact Bz.mono (Bz.mul (by assumption) (by assumption)) (by decide) | decide)
local macro_rules | `(tactic| walk_at "ex") => `(tactic| ((show Exists _); first | apply @Exists.intro V | apply @Exists.intro Int | apply @Exists.intro Addr | apply @Exists.intro (List V) | apply @Exists.intro Nat | apply @Exists.intro Str | apply @Exists.intro Bool | apply @Exists.intro (Option V) | apply @Exists.intro String | apply @Exists.intro Rat | apply @Exists.intro (List Rat)))
local macro_rules | `(tactic| walk_at "rd") => `(tactic| ((repeat (first | (walk_at "ex") | (apply And.intro; (focus (walk_at "cl"))))); (try dsimp only [])))
local macro_rules | `(tactic| walk_at "r0") => `(tactic| (repeat (first | (walk_at "ex") | (apply And.intro; (focus (walk_at "cl"))))))

section
variable {P : Program} {w : World} {K : PySem.W.Frag} {mg : Str → Option Value} {base : Heap}
/-- without_end of fractions -/
def spEndF (K : PySem.W.Frag) : Sp := fun vs H Q _ => ∃ (l : Addr) (aN : Addr) (us : List V) (qs : List Rat), vs = [.ref l, .ref aN] ∧ SqL K H l us ∧ FrA K H us qs ∧ FrT K H (.ref aN) 0 ∧ us.length < 1000 ∧
  ∀ p m, H p = none → m ≤ us.length → Tr (qs.take m) → (∀ c ∈ qs.drop m, c = 0) → Q (.ref p) (upd H p (.lst (us.take m)))
theorem sc_without_end : FnScope ["numbers", "nought", "many"] ["numbers", "nought"] (defScope s_without_end) := ⟨rfl, rfl, rfl, by decide +kernel, rfl, by decide +kernel, by decide +kernel⟩
theorem d_without_end (W : FunIn K mg "without_end" s_without_end) (T : Blt mg) : Df P w K mg base "without_end" 1 ["numbers", "nought"] (spEndF K) := by
  obtain ⟨f, fd, F, hm⟩ := W
  refine ⟨f, fd, F.ok sc_without_end (fun vs H Q E h => ?_) (fun cdv A outer s H vs Q E hr h => ?_), hm, F.kp, F.binds fun _ _ _ _ _ _ us hl => match us, hl with | [_, _], _ => rfl⟩
  · obtain ⟨l, aN, us, qs, rfl, _⟩ := h
    rfl
  · obtain ⟨l, aN, us, qs, rfl, hl, hA, hN, hlen, q⟩ := h
    have nd := sc_without_end.nd
    have hL := hA.length
    refine ⟨_, (pss_cons (ps_set (i := 2) nd rfl (Or.inl rfl) (pe_callB call_len_seq (by rfl) T.n_len (by decide +kernel) (pa_cons (pv 0) pa_nil)))
        (pss_cons (ps_while PassesOwn.never (PW.pt (pw_and (pt_cmpR op_gt (pv 2) pe_int (nomark _)) (pw_and1 (pt_cmpR (op_eqD (hu64 hr)) (pe_ix ix_list (pv 0) (pe_op op_sub (pv 2) pe_int) (fun _ _ => rfl)) (pv 1) (nomark _))))) (pss_one (ps_aug (i := 2) nd rfl (Or.inl rfl) pe_int ip_sub)))
        (pss_one (ps_ret (pe_slice sl_list (pv 0) po_none (po_some (pv 2))))))), ?_⟩
    have hlr : SqL K H l us ∨ SqT K H l us := Or.inl hl
    walk_at "rd"
    refine ⟨fun m σ H' => σ = [some (.ref l), some (.ref aN), some (.int (m : Int))] ∧ H' = H ∧ m ≤ us.length ∧ ∀ c ∈ qs.drop m, c = 0, ⟨us.length, rfl, rfl, Nat.le_refl _, fun c hc => ?_⟩, ?_⟩
    · rw [hL, List.drop_length] at hc
      cases hc
    · rintro m σ H' ⟨rfl, rfl, hm1, hz⟩
      walk_at "rd"
      refine tif (fun h0 => ?_) (fun h0 => ?_)
      · have h0' : 0 < m := by omega
        obtain ⟨u, hu⟩ : ∃ u, us[m - 1]? = some u := ⟨_, List.getElem?_eq_getElem (by omega)⟩
        obtain ⟨r, hr1, hfr⟩ := hA.get hu
        have hat : atI us ((m : Int) - 1) = some u := at_of (j := m - 1) (by omega) hu
        have hr2 : qs[m - 1]'(by omega) = r := by
          rw [List.getElem?_eq_getElem (by omega)] at hr1
          exact Option.some.inj hr1
        walk_at "rd"
        refine rEqD_fr hfr hN ?_
        walk_at "rd"
        refine tif (fun he => ?_) (fun he => ?_)
        · refine ⟨fun σ' H'' => σ' = [some (.ref l), some (.ref aN), some (.int ((m - 1 : Nat) : Int))] ∧ H'' = H', ?_, ?_⟩
          · rintro σ' H'' ⟨rfl, rfl⟩
            refine ⟨m - 1, by omega, rfl, rfl, by omega, fun c hc => ?_⟩
            have e1 : qs.drop (m - 1) = r :: qs.drop m := by
              rw [List.drop_eq_getElem_cons (by omega), hr2, Nat.sub_add_cancel h0']
            rw [e1] at hc
            rcases List.mem_cons.mp hc with z | z
            · rw [z, he]
            · exact hz c z
          · have em : (m : Int) - 1 = ((m - 1 : Nat) : Int) := by omega
            walk_at "rd"
            rw [em]
            exact ⟨rfl, rfl⟩
        · walk_at "rd"
          rw [cutV_take hm1]
          exact fun p hp => q p m hp hm1 (tr_take_of h0' (by omega) (by rw [hr2]; exact he)) hz
      · have m0 : m = 0 := by omega
        subst m0
        walk_at "rd"
        rw [cutV_take hm1]
        exact fun p hp => q p 0 hp hm1 tr_nil hz
/-- trimmed: the row of some fractions -/
def spTrim (K : PySem.W.Frag) : Sp := fun vs H Q _ => ∃ (l : Addr) (us : List V) (qs : List Rat), vs = [.ref l] ∧ SqL K H l us ∧ FrA K H us qs ∧ us.length < 1000 ∧
  ∀ v H' m, Same H H' → Tr (qs.take m) → (∀ c ∈ qs.drop m, c = 0) → RwT K H' v (qs.take m) → Q v H'
theorem sc_trimmed : FnScope ["fractions"] ["fractions"] (defScope s_trimmed) := ⟨rfl, rfl, rfl, by decide +kernel, rfl, by decide +kernel, by decide +kernel⟩
theorem d_trimmed {aNIL : Addr} (W : FunIn K mg "trimmed" s_trimmed) (T : Blt mg) (hNIL : NilC K mg aNIL) (Dwithout_end : Df P w K mg base "without_end" 1 ["numbers", "nought"] (spEndF K)) : Df P w K mg base "trimmed" 2 ["fractions"] (spTrim K) := by
  obtain ⟨f, fd, F, hm⟩ := W
  refine ⟨f, fd, F.ok sc_trimmed (fun vs H Q E h => ?_) (fun cdv A outer s H vs Q E hr h => ?_), hm, F.kp, F.binds fun _ _ _ _ _ _ us hl => match us, hl with | [_], _ => rfl⟩
  · obtain ⟨l, us, qs, rfl, _⟩ := h
    rfl
  · obtain ⟨l, us, qs, rfl, hl, hA, hlen, q⟩ := h
    have nd := sc_trimmed.nd
    have hN := hNIL.fr H
    refine ⟨_, (pss_one (ps_ret (pe_callTy call_tuple_of (by rfl) T.n_tuple (by decide +kernel) (pa_cons (pe_d Dwithout_end (hr.mono (by decide)) rfl (pa_cons (pv 0) (pa_cons (pe_glob (v := .ref aNIL) rfl hNIL.g rfl) pa_nil))) pa_nil)))), ?_⟩
    walk_at "rd"
    intro p m hp hm1 ht hz
    have s1 := same_new (o := .lst (us.take m)) hp
    have e1 : upd H p (.lst (us.take m)) p = some (.lst (us.take m)) := upd_same
    generalize upd H p (.lst (us.take m)) = H1 at s1 e1
    refine ⟨_, _, rfl, Or.inl ⟨SqL.of e1, fun t ht' => ?_⟩⟩
    exact q _ _ m (s1.trans (same_new ht')) ht hz ⟨t, us.take m, rfl, SqT.of upd_same, fra_mono (same_t (s1.trans (same_new ht'))) (hA.take m)⟩
end

end Vx
namespace Vx
open PySem PySem.Spec PyProof.Rows L2
local macro_rules | `(tactic| walk_at "cl") => `(tactic| first | rfl | assumption | omega | exact sz_of 0 rfl (by decide) | exact sz_of 1 rfl (by decide) | exact sz_of 2 rfl (by decide) | exact sz_of 3 rfl (by decide) | exact cmulx (by assumption) (by assumption) (by decide) | exact Bz.mono (Bz.mul (by assumption) (by assumption)) (by decide) | decide)
local macro_rules | `(tactic| walk_at "ex") => `(tactic| ((show Exists _); first | apply @Exists.intro V | apply @Exists.intro Int | apply @Exists.intro Addr | apply @Exists.intro (List V) | apply @Exists.intro Nat | apply @Exists.intro Str | apply @Exists.intro Bool | apply @Exists.intro (Option V) | apply @Exists.intro String | apply @Exists.intro Rat | apply @Exists.intro (List Rat)))
local macro_rules | `(tactic| walk_at "rd") => `(tactic| ((repeat (first | (walk_at "ex") | (apply And.intro; (focus (walk_at "cl"))))); (try dsimp only [])))
local macro_rules | `(tactic| walk_at "r0") => `(tactic| (repeat (first | (walk_at "ex") | (apply And.intro; (focus (walk_at "cl"))))))

section
variable {P : Program} {w : World} {K : PySem.W.Frag} {mg : Str → Option Value} {base : Heap}
/-- cleared: the numbers over one common divisor -/
def spClear (K : PySem.W.Frag) : Sp := fun vs H Q _ => ∃ (x : V) (qs : List Rat) (b : Nat), vs = [x] ∧ RwT K H x qs ∧ Qs b qs ∧ qs.length < 1000 ∧ (qs.length + 1) * b + 1 ≤ 8000 ∧
  ∀ (t l : Addr) (ns : List Int) (D : Int) (H' : Hp), Same H H' → SqT K H' t [.ref l, .int D] → H' l = some (.lst (ns.map V.int)) → ns.length = qs.length → 0 < D → Bz (qs.length * b + 1) D →
    (∀ n ∈ ns, Bz (b + (qs.length * b + 1)) n) → ns.map (fun (n : Int) => (n : Rat)) = qs.map ((D : Rat) * ·) → Q (.ref t) H'
theorem sc_cleared : FnScope ["row", "under", "fraction", "number", "part"] ["row"] (defScope s_cleared) := ⟨rfl, rfl, rfl, by decide +kernel, rfl, by decide +kernel, by decide +kernel⟩
theorem d_cleared (W : FunIn K mg "cleared" s_cleared) (T : Blt mg) (gl : mg "lcm" = some (.builtin "math.lcm")) : Df P w K mg base "cleared" 1 ["row"] (spClear K) := by
  obtain ⟨f, fd, F, hm⟩ := W
  refine ⟨f, fd, F.ok sc_cleared (fun vs H Q E h => ?_) (fun cdv A outer s H vs Q E hr h => ?_), hm, F.kp, F.binds fun _ _ _ _ _ _ us hl => match us, hl with | [_], _ => rfl⟩
  · obtain ⟨x, qs, b, rfl, _⟩ := h
    rfl
  · obtain ⟨x, qs, b, rfl, ⟨a, us, rfl, ha, hA⟩, hz, hlen, hb, q⟩ := h
    have nd := sc_cleared.nd
    have hL := hA.length
    refine ⟨_, (pss_cons (ps_set (i := 1) nd rfl (Or.inr rfl) pe_int)
        (pss_cons (ps_for PassesOwn.never rfl (pi_tup (pv 0)) (pg_name (i := 2) nd rfl (Or.inl rfl) (Or.inr rfl)) (pss_one (ps_set (i := 1) nd rfl (Or.inr rfl) (pe_callBfun cr_lcm (by rfl) gl (pa_cons (pv 1) (pa_cons (pe_ix ix_tup (pv 2) pe_int (fun _ _ => rfl)) pa_nil))))))
        (pss_one (ps_ret (pe_tup (pa_cons (pe_lc (own := [("number", 3), ("part", 4)]) rfl nd (pi_tup (pv 0)) (blkOk_by (own := [("number", 3), ("part", 4)]) (N := ["row", "under", "fraction", "number", "part"]) (sc := defScope s_cleared) (by decide +kernel)) (fun _ _ _ _ _ => (pg_pair (K := K) (i := 3) (j := 4) rfl rfl nd rfl rfl rfl rfl)) (fun _ _ _ _ _ => pts_nil) (fun _ _ _ _ _ => (pe_op op_mulX (pv 3) (pe_op op_fdivX (pv 1) (pv 4))))) (pa_cons (pv 1) pa_nil))))))), ?_⟩
    refine ⟨V.ref a, rfl, a, rfl, ⟨us, ha⟩, for_tup (K := K) (a := a) (xs := us) (fun i σ H' => ∃ (D : Int) (o : Option V), σ = [some (.ref a), some (.int D), o, none, none] ∧ H' = H ∧ 0 < D ∧ Bz (i * b + 1) D ∧ ∀ j, j < i → ∀ c, qs[j]? = some c → (c.den : Int) ∣ D) ⟨1, none, rfl, rfl, by decide, by unfold Bz; rw [Nat.zero_mul]; decide, fun j hj => absurd hj (Nat.not_lt_zero _)⟩ (fun i σ H' _ ⟨_, _, _, e, _⟩ => by rw [e]; exact ha) ?_ ?_⟩
    · rintro i u σ H' hu ⟨D, o, rfl, rfl, hD0, hDz, hdv⟩
      obtain ⟨c, hc, ⟨e, rfl, he⟩⟩ := hA.get hu
      have hi : i < us.length := (List.getElem?_eq_some_iff.mp hu).1
      have hcz : Qz b c := hz c (List.mem_of_getElem? hc)
      have le1 : i * b + 1 + b ≤ qs.length * b + 1 := by
        have := Nat.mul_le_mul_right b (show i + 1 ≤ qs.length by omega)
        rw [Nat.add_mul, Nat.one_mul] at this
        omega
      have le2 : qs.length * b + b = (qs.length + 1) * b := by rw [Nat.add_mul, Nat.one_mul]
      have z1 : Bz 9000 D := hDz.mono (by omega)
      have z2 : Bz 9000 (c.den : Int) := hcz.dd.mono (by omega)
      refine ⟨_, rfl, ?_⟩
      walk_at "rd"
      refine ⟨lcm_pos' hD0 c.den_nz, ?_, fun j hj c' hc' => ?_⟩
      · rw [Nat.add_mul, Nat.one_mul, Nat.add_right_comm]
        exact lcm_bz hD0 hDz hcz.2
      · rcases Nat.lt_or_eq_of_le (Nat.le_of_lt_succ hj) with hj | rfl
        · exact lcm_left (hdv j hj c' hc')
        · rw [hc] at hc'
          cases hc'
          exact lcm_right
    · rintro σ H' ⟨D, o, rfl, rfl, hD0, hDz, hdv⟩
      rw [hL] at hDz hdv
      refine ⟨V.ref a, rfl, a, rfl, ⟨us, ha⟩, fun l hl => lc_map (walk_tup (K := K) (a := a) (xs := us)) hl (by rw [sizeLine_eq]; omega) (fun i _ v => ∃ c, qs[i]? = some c ∧ v = .int (c.num * D.fdiv (c.den : Int))) (fun _ _ _ _ _ h => h) (fun H1 s1 => same_seqT s1 ha) ?_ ?_⟩
      · rintro i u H1 H2 hi s1 _ ⟨rfl, hu⟩ Fin hF
        obtain ⟨c, hc, ⟨e, rfl, he⟩⟩ := hA.get hu
        have hcz : Qz b c := hz c (List.mem_of_getElem? hc)
        have he1 := same_seqT s1 he
        have le2 : qs.length * b + b = (qs.length + 1) * b := by rw [Nat.add_mul, Nat.one_mul]
        have c1 : CDivX D (c.den : Int) := cdivx (by have := c.den_nz; omega) (hcz.dd.mono (by omega)) (Nat.le_refl 9000)
        have c2 : CMulX c.num (D.fdiv (c.den : Int)) := cmulx (a := b) (b := qs.length * b + 1) hcz.n (by
          unfold Bz at *
          rw [Int.fdiv_eq_ediv_of_nonneg _ (by omega)]
          exact Nat.lt_of_le_of_lt (Int.natAbs_ediv_le_natAbs _ _) hDz) (by omega)
        walk_at "rd"
        exact hF _ _ (Same.refl _) ⟨c, hc, rfl⟩
      · rintro H1 acc s1 hacc hlen1 hel
        have hex : acc = ((qs.map fun c => c.num * D.fdiv (c.den : Int)) : List Int).map V.int := by
          refine List.ext_getElem? fun i => ?_
          by_cases hi : i < acc.length
          · obtain ⟨c, hc, hv⟩ := hel i _ (List.getElem?_eq_getElem hi)
            rw [List.getElem?_eq_getElem hi, hv, List.getElem?_map, List.getElem?_map, hc]
            rfl
          · rw [List.getElem?_eq_none (by omega), List.getElem?_eq_none (by simp only [List.length_map]; omega)]
        walk_at "rd"
        intro t ht
        have s2 := same_new (o := .tup [.ref l, .int D]) ht
        refine q t l (qs.map fun c => c.num * D.fdiv (c.den : Int)) D _ (s1.trans s2) (SqT.of upd_same) (by rw [← hex]; exact s2 _ _ hacc) (List.length_map _) hD0 hDz (fun n hn => ?_) ?_
        · obtain ⟨c, hc, rfl⟩ := List.mem_map.mp hn
          exact clear_bz hD0 hDz (hz c hc)
        · rw [List.map_map]
          refine List.map_congr_left fun c hc => ?_
          obtain ⟨j, hj⟩ := List.mem_iff_getElem?.mp hc
          exact clear_eq (hdv j (List.getElem?_eq_some_iff.mp hj).1 c hj)
end
section
variable {P : Program} {w : World} {K : PySem.W.Frag} {mg : Str → Option Value} {base : Heap}
/-- row_over: the row of whole numbers over one -/
def spOver (K : PySem.W.Frag) : Sp := fun vs H Q _ => ∃ (l : Addr) (ns : List Int) (m : Int), vs = [.ref l, .int m] ∧ SqL K H l (ns.map V.int) ∧ m ≠ 0 ∧ Bz 8000 m ∧ ns.length < 1000 ∧
  ∀ v r H', Same H H' → RwT K H' v r → Tr r → (∀ x, ev r x = ev (toR ns) x / (m : Rat)) → (∀ b, (∀ n ∈ ns, Bz b n) → Bz b m → Qs b r) → r.length ≤ ns.length → Q v H'
theorem sc_row_over : FnScope ["numbers", "under", "number"] ["numbers", "under"] (defScope s_row_over) := ⟨rfl, rfl, rfl, by decide +kernel, rfl, by decide +kernel, by decide +kernel⟩
theorem d_row_over (W : FunIn K mg "row_over" s_row_over) (Dratio : Df P w K mg base "ratio" 1 ["number", "under"] (spRatio K)) (Dtrimmed : Df P w K mg base "trimmed" 2 ["fractions"] (spTrim K)) : Df P w K mg base "row_over" 3 ["numbers", "under"] (spOver K) := by
  obtain ⟨f, fd, F, hm⟩ := W
  refine ⟨f, fd, F.ok sc_row_over (fun vs H Q E h => ?_) (fun cdv A outer s H vs Q E hr h => ?_), hm, F.kp, F.binds fun _ _ _ _ _ _ us hl => match us, hl with | [_, _], _ => rfl⟩
  · obtain ⟨l, ns, m, rfl, _⟩ := h
    rfl
  · obtain ⟨l, ns, m, rfl, hl, hm0, hmz, hlen, q⟩ := h
    have nd := sc_row_over.nd
    refine ⟨_, (pss_one (ps_ret (pe_d Dtrimmed (hr.mono (by decide)) rfl (pa_cons (pe_lc (own := [("number", 2)]) rfl nd (pi_list (pv 0)) (blkOk_by (own := [("number", 2)]) (N := ["numbers", "under", "number"]) (sc := defScope s_row_over) (by decide +kernel)) (fun _ _ _ _ _ => (pg_name (i := 2) nd rfl (Or.inl rfl) (Or.inr rfl))) (fun _ _ _ _ _ => pts_nil) (fun _ _ _ _ _ => (pe_d Dratio (hr.mono (by decide)) rfl (pa_cons (pv 2) (pa_cons (pv 1) pa_nil))))) pa_nil)))), ?_⟩
    refine ⟨V.ref l, rfl, l, rfl, ⟨_, hl⟩, fun D hD => lc_map (walk_list (K := K) (a := l) (xs := ns.map V.int)) hD (by rw [sizeLine_eq, List.length_map]; omega) (fun i H v => ∃ n, ns[i]? = some n ∧ FrT K H v (Rat.divInt n m)) (fun i H H' v e ⟨n, h1, h2⟩ => ⟨n, h1, h2.mono e⟩) (fun H1 s1 => s1.seq hl) ?_ ?_⟩
    · rintro i u H1 H2 hi s1 _ ⟨rfl, hu⟩ Fin hF
      rw [List.getElem?_map] at hu
      obtain ⟨n, hn, rfl⟩ := Option.map_eq_some_iff.mp hu
      walk_at "rd"
      exact fun v H' s2 hv => hF _ _ s2 ⟨n, hn, hv⟩
    · intro H1 acc s1 hacc hlen1 hel
      rw [List.length_map] at hlen1
      have hA : FrA K H1 acc (ns.map fun n => Rat.divInt n m) := by
        refine Al.of (by rw [List.length_map, hlen1]) fun i v c h1 h2 => ?_
        obtain ⟨n, hn, hv⟩ := hel i v h1
        rw [List.getElem?_map, hn] at h2
        cases h2
        exact hv
      refine ⟨D, acc, _, rfl, SqL.of hacc, hA, by omega, fun v H' k s2 ht hz hv => ?_⟩
      refine q v _ H' (s1.trans s2) hv ht (fun x => ?_) (fun b hb hbm c hc => ?_) ?_
      · rw [ev_take_drop _ _ hz, ev_toR_div _ hm0]
      · obtain ⟨n, hn, rfl⟩ := List.mem_map.mp (List.mem_of_mem_take hc)
        exact Qz.of_div (hb n hn) hbm hm0
      · rw [List.length_take, List.length_map]
        omega
/-- padded: noughts behind a row -/
def spPad (K : PySem.W.Frag) : Sp := fun vs H Q _ => ∃ (x : V) (qs : List Rat) (m : Nat), vs = [x, .int (m : Int)] ∧ RwT K H x qs ∧ qs.length ≤ m ∧ m ≤ 1000 ∧
  ∀ v H', Same H H' → RwT K H' v (qs ++ List.replicate (m - qs.length) 0) → Q v H'
theorem sc_padded : FnScope ["row", "many"] ["row", "many"] (defScope s_padded) := ⟨rfl, rfl, rfl, by decide +kernel, rfl, by decide +kernel, by decide +kernel⟩
theorem d_padded {aNIL : Addr} (W : FunIn K mg "padded" s_padded) (T : Blt mg) (hNIL : NilC K mg aNIL) : Df P w K mg base "padded" 1 ["row", "many"] (spPad K) := by
  obtain ⟨f, fd, F, hm⟩ := W
  refine ⟨f, fd, F.ok sc_padded (fun vs H Q E h => ?_) (fun cdv A outer s H vs Q E hr h => ?_), hm, F.kp, F.binds fun _ _ _ _ _ _ us hl => match us, hl with | [_, _], _ => rfl⟩
  · obtain ⟨x, qs, m, rfl, _⟩ := h
    rfl
  · obtain ⟨x, qs, m, rfl, ⟨a, us, rfl, ha, hA⟩, hm1, hm2, q⟩ := h
    have nd := sc_padded.nd
    have hL := hA.length
    have ha' : SqL K H a us ∨ SqT K H a us := Or.inr ha
    refine ⟨_, (pss_one (ps_ret (pe_op op_catA (pv 0) (pe_op op_repA (pe_tup (pa_cons (pe_glob (v := .ref aNIL) rfl hNIL.g rfl) pa_nil)) (pe_op op_sub (pv 1) (pe_callB call_len_seq (by rfl) T.n_len (by decide +kernel) (pa_cons (pv 0) pa_nil))))))), ?_⟩
    walk_at "rd"
    intro p1 hp1
    have s1 := same_new (o := .tup [.ref aNIL]) hp1
    have e1 : upd H p1 (.tup [.ref aNIL]) p1 = some (.tup [.ref aNIL]) := upd_same
    generalize upd H p1 (.tup [.ref aNIL]) = H1 at s1 e1
    have ha1 := same_seqT s1 ha
    have ha1' : SqL K H1 a us ∨ SqT K H1 a us := Or.inr ha1
    have hq1 : SqT K H1 p1 [V.ref aNIL] := SqT.of e1
    have hsub : (m : Int) - (us.length : Int) = ((m - qs.length : Nat) : Int) := by omega
    have hcat : ∀ (b : Addr) (ys : List V) (H2 : Hp), Same H1 H2 → SqT K H2 b ys → FrA K H2 ys (List.replicate (m - qs.length) 0) →
        rCatA K (.ref a) (.ref b) H2 Q := by
      intro b ys H2 s2 hb hf
      have s02 := s1.trans s2
      have hl2 := hf.length
      rw [List.length_replicate] at hl2
      have haf : FrA K H2 us qs := fra_mono (same_t s02) hA
      refine ⟨a, b, us, ys, rfl, rfl, same_seqT s02 ha, hb, by rw [sizeLine_eq]; omega, fun e => ?_, fun e1' e2 => ?_, fun e1' e2 p hp => ?_⟩
      · rw [e] at hL
        have e3 : qs = [] := List.eq_nil_of_length_eq_zero hL.symm
        rw [e3] at q hf
        exact q _ _ s02 ⟨b, ys, rfl, hb, hf⟩
      · rw [e2] at hl2
        rw [← hl2] at q
        rw [List.length_nil, List.replicate_zero, List.append_nil] at q
        exact q _ _ s02 ⟨a, us, rfl, same_seqT s02 ha, haf⟩
      · have s3 := s02.trans (same_new (o := .tup (us ++ ys)) hp)
        exact q _ _ s3 ⟨p, us ++ ys, rfl, SqT.of upd_same, fra_mono (same_t (same_new hp)) (haf.append hf)⟩
    walk_at "rd"
    rw [hsub]
    refine ⟨(by simp), by omega, by omega, (by show 1 ≤ 1000; decide), fun hk => ?_, fun hk p hp => ?_⟩
    · have hk' : m - qs.length = 1 := by omega
      refine hcat p1 [V.ref aNIL] H1 (Same.refl _) hq1 ?_
      rw [hk']
      exact .cons (hNIL.fr H1) .nil
    · have ef : (List.replicate ((m - qs.length : Nat) : Int).toNat [V.ref aNIL]).flatten = List.replicate (m - qs.length) (V.ref aNIL) := by
        rw [Int.toNat_natCast]
        generalize m - qs.length = k
        induction k with
        | zero => rfl
        | succ k ih => rw [List.replicate_succ, List.flatten_cons, ih, List.replicate_succ]; rfl
      rw [ef]
      refine hcat p _ _ (same_new hp) (SqT.of upd_same) ?_
      generalize upd H1 p (.tup (List.replicate (m - qs.length) (V.ref aNIL))) = Hx
      generalize m - qs.length = k
      induction k with
      | zero => exact .nil
      | succ k ih => exact .cons (hNIL.fr _) ih
end

end Vx
namespace Vx
open PySem PySem.Spec PyProof.Rows L2
local macro_rules | `(tactic| walk_at "cl") => `(tactic| first | rfl | assumption | omega | exact sz_of 0 rfl (by decide) | exact sz_of 1 rfl (by decide) | exact sz_of 2 rfl (by decide) | exact sz_of 3 rfl (by decide) | exact cmulx (by assumption) (by assumption) (by decide) | exact Bz.mono (Bz.mul (by assumption) (by assumption)) (by decide) | decide)
local macro_rules | `(tactic| walk_at "ex") => `(tactic| ((show Exists _); first | apply @Exists.intro V | apply @Exists.intro Int | apply @Exists.intro Addr | apply @Exists.intro (List V) | apply @Exists.intro Nat | apply @Exists.intro Str | apply @Exists.intro Bool | apply @Exists.intro (Option V) | apply @Exists.intro String | apply @Exists.intro Rat | apply @Exists.intro (List Rat)))
local macro_rules | `(tactic| walk_at "rd") => `(tactic| ((repeat (first | (walk_at "ex") | (apply And.intro; (focus (walk_at "cl"))))); (try dsimp only [])))
local macro_rules | `(tactic| walk_at "r0") => `(tactic| (repeat (first | (walk_at "ex") | (apply And.intro; (focus (walk_at "cl"))))))

section
variable {P : Program} {w : World} {K : PySem.W.Frag} {mg : Str → Option Value} {base : Heap}
/-- of two rows a third, number by number -/
def spRows (K : PySem.W.Frag) (op : Rat → Rat → Rat) : Sp := fun vs H Q _ => ∃ (x y : V) (ps qs : List Rat) (b : Nat), vs = [x, y] ∧ RwT K H x ps ∧ RwT K H y qs ∧ Qs b ps ∧ Qs b qs ∧ 0 < b ∧ b ≤ 3900 ∧ ps.length < 900 ∧ qs.length < 900 ∧
  ∀ v r H', Same H H' → RwT K H' v r → Tr r → (∀ z, ev r z = op (ev ps z) (ev qs z)) → Qs (b + b + 1) r → r.length ≤ max ps.length qs.length → Q v H'
theorem ev_zip_add (a b : List Rat) (h : a.length = b.length) (x : Rat) : ev ((List.range a.length).map fun i => a.getD i 0 + b.getD i 0) x = ev a x + ev b x := by
  induction a generalizing b with
  | nil =>
    cases b with
    | nil => show (0 : Rat) = 0 + 0; grind
    | cons d b => cases h
  | cons c a ih =>
    cases b with
    | nil => cases h
    | cons d b =>
      rw [List.length_cons, List.range_succ_eq_map, List.map_cons, List.map_map]
      show (c + d) + x * ev ((List.range a.length).map fun i => a.getD i 0 + b.getD i 0) x = (c + x * ev a x) + (d + x * ev b x)
      rw [ih b (by simpa using h)]
      grind
theorem ev_zip_sub (a b : List Rat) (h : a.length = b.length) (x : Rat) : ev ((List.range a.length).map fun i => a.getD i 0 - b.getD i 0) x = ev a x - ev b x := by
  induction a generalizing b with
  | nil =>
    cases b with
    | nil => show (0 : Rat) = 0 - 0; grind
    | cons d b => cases h
  | cons c a ih =>
    cases b with
    | nil => cases h
    | cons d b =>
      rw [List.length_cons, List.range_succ_eq_map, List.map_cons, List.map_map]
      show (c - d) + x * ev ((List.range a.length).map fun i => a.getD i 0 - b.getD i 0) x = (c + x * ev a x) - (d + x * ev b x)
      rw [ih b (by simpa using h)]
      grind
theorem ev_pad (a : List Rat) (n : Nat) (x : Rat) : ev (a ++ List.replicate n 0) x = ev a x := by
  rw [ev_append, ev_replicate0]
  grind
theorem getD_some {α : Type} {l : List α} {i : Nat} {a d : α} (h : l[i]? = some a) : l.getD i d = a := by
  rw [List.getD_eq_getElem?_getD, h]
  rfl
theorem qs_pad {b n : Nat} {a : List Rat} (h : Qs b a) (hb : 0 < b) : Qs b (a ++ List.replicate n 0) := fun c hc => by
  rcases List.mem_append.mp hc with z | z
  · exact h c z
  · rw [(List.mem_replicate.mp z).2]
    exact qz0 hb
theorem sc_plus : FnScope ["row", "other", "many", "x", "y"] ["row", "other"] (defScope s_plus) := ⟨rfl, rfl, rfl, by decide +kernel, rfl, by decide +kernel, by decide +kernel⟩
theorem d_plus (W : FunIn K mg "plus" s_plus) (T : Blt mg) (Dratio_sum : Df P w K mg base "ratio_sum" 2 ["one", "other"] (spR2 K (fun p q => p + q))) (Dtrimmed : Df P w K mg base "trimmed" 2 ["fractions"] (spTrim K)) (Dpadded : Df P w K mg base "padded" 1 ["row", "many"] (spPad K)) : Df P w K mg base "plus" 3 ["row", "other"] (spRows K (fun p q => p + q)) := by
  obtain ⟨f, fd, F, hm⟩ := W
  refine ⟨f, fd, F.ok sc_plus (fun vs H Q E h => ?_) (fun cdv A outer s H vs Q E hr h => ?_), hm, F.kp, F.binds fun _ _ _ _ _ _ us hl => match us, hl with | [_, _], _ => rfl⟩
  · obtain ⟨x, y, ps, qs, b, rfl, _⟩ := h
    rfl
  · obtain ⟨x, y, ps, qs, b, rfl, ⟨a1, us, rfl, ha, hA⟩, ⟨a2, vs, rfl, hb, hB⟩, zp, zq, hb0, hb1, lp, lq, q⟩ := h
    have nd := sc_plus.nd
    have hL1 := hA.length
    have hL2 := hB.length
    have ha' : SqL K H a1 us ∨ SqT K H a1 us := Or.inr ha
    have hb' : SqL K H a2 vs ∨ SqT K H a2 vs := Or.inr hb
    obtain ⟨M, hM⟩ : ∃ M, max ps.length qs.length = M := ⟨_, rfl⟩
    have hmax : (if (vs.length : Int) > (us.length : Int) then (vs.length : Int) else (us.length : Int)) = (M : Int) := by
      split <;> omega
    refine ⟨_, (pss_cons (ps_set (i := 2) nd rfl (Or.inl rfl) (pe_callB (call_max2 rfl) (by rfl) T.n_max (by decide +kernel) (pa_cons (pe_callB call_len_seq (by rfl) T.n_len (by decide +kernel) (pa_cons (pv 0) pa_nil)) (pa_cons (pe_callB call_len_seq (by rfl) T.n_len (by decide +kernel) (pa_cons (pv 1) pa_nil)) pa_nil))))
        (pss_one (ps_ret (pe_d Dtrimmed (hr.mono (by decide)) rfl (pa_cons (pe_lc (own := [("x", 3), ("y", 4)]) rfl nd (RZ.pi_zipA (by rfl) T.n_zip (pa_cons (pe_d Dpadded (hr.mono (by decide)) rfl (pa_cons (pv 0) (pa_cons (pv 2) pa_nil))) (pa_cons (pe_d Dpadded (hr.mono (by decide)) rfl (pa_cons (pv 1) (pa_cons (pv 2) pa_nil))) pa_nil))) (blkOk_by (own := [("x", 3), ("y", 4)]) (N := ["row", "other", "many", "x", "y"]) (sc := defScope s_plus) (by decide +kernel)) (fun _ _ _ _ _ => (pg_pair (K := K) (i := 3) (j := 4) rfl rfl nd rfl rfl rfl rfl)) (fun _ _ _ _ _ => pts_nil) (fun _ _ _ _ _ => (pe_d Dratio_sum (hr.mono (by decide)) rfl (pa_cons (pv 3) (pa_cons (pv 4) pa_nil))))) pa_nil))))), ?_⟩
    walk_at "rd"
    rw [hmax]
    have hp1 : RwT K H (.ref a1) ps := ⟨a1, us, rfl, ha, hA⟩
    refine ⟨rfl, ?_⟩
    refine ⟨hp1, ?_⟩
    refine ⟨by omega, by omega, fun v1 H1 s1 hv1 => ?_⟩
    have hq1 : RwT K H1 (.ref a2) qs := RwT.mono (same_t s1) ⟨a2, vs, rfl, hb, hB⟩
    walk_at "rd"
    intro v2 H2 s2 hv2
    obtain ⟨b1, us1, rfl, hb1', hA1⟩ := RwT.mono (same_t s2) hv1
    obtain ⟨b2, us2, rfl, hb2', hA2⟩ := hv2
    have hm1 := hA1.length
    have hm2 := hA2.length
    have hl1 : (ps ++ List.replicate (M - ps.length) (0 : Rat)).length = M := by rw [List.length_append, List.length_replicate]; omega
    have hl2 : (qs ++ List.replicate (M - qs.length) (0 : Rat)).length = M := by rw [List.length_append, List.length_replicate]; omega
    have zp1 : Qs b (ps ++ List.replicate (M - ps.length) 0) := qs_pad zp hb0
    have zq1 : Qs b (qs ++ List.replicate (M - qs.length) 0) := qs_pad zq hb0
    have ep : ∀ z, ev (ps ++ List.replicate (M - ps.length) 0) z = ev ps z := ev_pad ps _
    have eq' : ∀ z, ev (qs ++ List.replicate (M - qs.length) 0) z = ev qs z := ev_pad qs _
    generalize ps ++ List.replicate (M - ps.length) (0 : Rat) = ps1 at *
    generalize qs ++ List.replicate (M - qs.length) (0 : Rat) = qs1 at *
    walk_at "rd"
    refine Or.inr ⟨hb1', hb2', fun D hD => lc_map (walk_zipT (K := K) (a := b1) (b := b2) (xs := us1) (ys := us2) (n := M) (by omega)) hD (by rw [sizeLine_eq]; omega) (fun i H' v => FrT K H' v (ps1.getD i 0 + qs1.getD i 0)) (fun i H' H'' v e h => h.mono e) (fun H3 s3 => ⟨same_seqT s3 hb1', same_seqT s3 hb2'⟩) ?_ ?_⟩
    · rintro i u H3 H4 hi s3 _ ⟨T1, x1, x2, rfl, hT1, rfl, hx1, hx2⟩ Fin hF
      obtain ⟨c1, hc1, hf1⟩ := hA1.get hx1
      obtain ⟨c2, hc2, hf2⟩ := hA2.get hx2
      have s4 := same_new (o := .tup [x1, x2]) hT1
      have e4 : upd H3 T1 (.tup [x1, x2]) T1 = some (.tup [x1, x2]) := upd_same
      have q1 := SqT.of (K := K) e4
      have hf1' := hf1.mono (same_t (s3.trans s4))
      have hf2' := hf2.mono (same_t (s3.trans s4))
      generalize upd H3 T1 (.tup [x1, x2]) = H5 at *
      have z1 : Qz 3900 c1 := (zp1 c1 (List.mem_of_getElem? hc1)).mono hb1
      have z2 : Qz 3900 c2 := (zq1 c2 (List.mem_of_getElem? hc2)).mono hb1
      walk_at "rd"
      intro v H' s5 hv
      exact hF _ _ (s4.trans s5) (by rw [getD_some hc1, getD_some hc2]; exact hv)
    · intro H3 acc s3 hacc hlen1 hel
      have hA3 : FrA K H3 acc ((List.range M).map fun i => ps1.getD i 0 + qs1.getD i 0) := al_of_get hlen1 hel
      refine ⟨D, acc, _, rfl, SqL.of hacc, hA3, by omega, fun v H' k s4 ht hz hv => ?_⟩
      refine q v _ H' (((s1.trans s2).trans s3).trans s4) hv ht (fun z => ?_) (fun c hc => ?_) ?_
      · rw [ev_take_drop _ _ hz]
        rw [← hl1, ev_zip_add ps1 qs1 (by omega), ep, eq']
      · obtain ⟨i, hi, rfl⟩ := List.mem_map.mp (List.mem_of_mem_take hc)
        have hi' := List.mem_range.mp hi
        have g1 : ps1.getD i 0 ∈ ps1 := by rw [getD_some (List.getElem?_eq_getElem (show i < ps1.length by omega))]; exact List.getElem_mem _
        have g2 : qs1.getD i 0 ∈ qs1 := by rw [getD_some (List.getElem?_eq_getElem (show i < qs1.length by omega))]; exact List.getElem_mem _
        exact Qz.add (zp1 _ g1) (zq1 _ g2)
      · rw [List.length_take, List.length_map, List.length_range]
        omega
theorem sc_minus : FnScope ["row", "other", "many", "x", "y"] ["row", "other"] (defScope s_minus) := ⟨rfl, rfl, rfl, by decide +kernel, rfl, by decide +kernel, by decide +kernel⟩
theorem d_minus (W : FunIn K mg "minus" s_minus) (T : Blt mg) (Dratio_less : Df P w K mg base "ratio_less" 2 ["one", "other"] (spR2 K (fun p q => p - q))) (Dtrimmed : Df P w K mg base "trimmed" 2 ["fractions"] (spTrim K)) (Dpadded : Df P w K mg base "padded" 1 ["row", "many"] (spPad K)) : Df P w K mg base "minus" 3 ["row", "other"] (spRows K (fun p q => p - q)) := by
  obtain ⟨f, fd, F, hm⟩ := W
  refine ⟨f, fd, F.ok sc_minus (fun vs H Q E h => ?_) (fun cdv A outer s H vs Q E hr h => ?_), hm, F.kp, F.binds fun _ _ _ _ _ _ us hl => match us, hl with | [_, _], _ => rfl⟩
  · obtain ⟨x, y, ps, qs, b, rfl, _⟩ := h
    rfl
  · obtain ⟨x, y, ps, qs, b, rfl, ⟨a1, us, rfl, ha, hA⟩, ⟨a2, vs, rfl, hb, hB⟩, zp, zq, hb0, hb1, lp, lq, q⟩ := h
    have nd := sc_minus.nd
    have hL1 := hA.length
    have hL2 := hB.length
    have ha' : SqL K H a1 us ∨ SqT K H a1 us := Or.inr ha
    have hb' : SqL K H a2 vs ∨ SqT K H a2 vs := Or.inr hb
    obtain ⟨M, hM⟩ : ∃ M, max ps.length qs.length = M := ⟨_, rfl⟩
    have hmax : (if (vs.length : Int) > (us.length : Int) then (vs.length : Int) else (us.length : Int)) = (M : Int) := by
      split <;> omega
    refine ⟨_, (pss_cons (ps_set (i := 2) nd rfl (Or.inl rfl) (pe_callB (call_max2 rfl) (by rfl) T.n_max (by decide +kernel) (pa_cons (pe_callB call_len_seq (by rfl) T.n_len (by decide +kernel) (pa_cons (pv 0) pa_nil)) (pa_cons (pe_callB call_len_seq (by rfl) T.n_len (by decide +kernel) (pa_cons (pv 1) pa_nil)) pa_nil))))
        (pss_one (ps_ret (pe_d Dtrimmed (hr.mono (by decide)) rfl (pa_cons (pe_lc (own := [("x", 3), ("y", 4)]) rfl nd (RZ.pi_zipA (by rfl) T.n_zip (pa_cons (pe_d Dpadded (hr.mono (by decide)) rfl (pa_cons (pv 0) (pa_cons (pv 2) pa_nil))) (pa_cons (pe_d Dpadded (hr.mono (by decide)) rfl (pa_cons (pv 1) (pa_cons (pv 2) pa_nil))) pa_nil))) (blkOk_by (own := [("x", 3), ("y", 4)]) (N := ["row", "other", "many", "x", "y"]) (sc := defScope s_minus) (by decide +kernel)) (fun _ _ _ _ _ => (pg_pair (K := K) (i := 3) (j := 4) rfl rfl nd rfl rfl rfl rfl)) (fun _ _ _ _ _ => pts_nil) (fun _ _ _ _ _ => (pe_d Dratio_less (hr.mono (by decide)) rfl (pa_cons (pv 3) (pa_cons (pv 4) pa_nil))))) pa_nil))))), ?_⟩
    walk_at "rd"
    rw [hmax]
    have hp1 : RwT K H (.ref a1) ps := ⟨a1, us, rfl, ha, hA⟩
    refine ⟨rfl, ?_⟩
    refine ⟨hp1, ?_⟩
    refine ⟨by omega, by omega, fun v1 H1 s1 hv1 => ?_⟩
    have hq1 : RwT K H1 (.ref a2) qs := RwT.mono (same_t s1) ⟨a2, vs, rfl, hb, hB⟩
    walk_at "rd"
    intro v2 H2 s2 hv2
    obtain ⟨b1, us1, rfl, hb1', hA1⟩ := RwT.mono (same_t s2) hv1
    obtain ⟨b2, us2, rfl, hb2', hA2⟩ := hv2
    have hm1 := hA1.length
    have hm2 := hA2.length
    have hl1 : (ps ++ List.replicate (M - ps.length) (0 : Rat)).length = M := by rw [List.length_append, List.length_replicate]; omega
    have hl2 : (qs ++ List.replicate (M - qs.length) (0 : Rat)).length = M := by rw [List.length_append, List.length_replicate]; omega
    have zp1 : Qs b (ps ++ List.replicate (M - ps.length) 0) := qs_pad zp hb0
    have zq1 : Qs b (qs ++ List.replicate (M - qs.length) 0) := qs_pad zq hb0
    have ep : ∀ z, ev (ps ++ List.replicate (M - ps.length) 0) z = ev ps z := ev_pad ps _
    have eq' : ∀ z, ev (qs ++ List.replicate (M - qs.length) 0) z = ev qs z := ev_pad qs _
    generalize ps ++ List.replicate (M - ps.length) (0 : Rat) = ps1 at *
    generalize qs ++ List.replicate (M - qs.length) (0 : Rat) = qs1 at *
    walk_at "rd"
    refine Or.inr ⟨hb1', hb2', fun D hD => lc_map (walk_zipT (K := K) (a := b1) (b := b2) (xs := us1) (ys := us2) (n := M) (by omega)) hD (by rw [sizeLine_eq]; omega) (fun i H' v => FrT K H' v (ps1.getD i 0 - qs1.getD i 0)) (fun i H' H'' v e h => h.mono e) (fun H3 s3 => ⟨same_seqT s3 hb1', same_seqT s3 hb2'⟩) ?_ ?_⟩
    · rintro i u H3 H4 hi s3 _ ⟨T1, x1, x2, rfl, hT1, rfl, hx1, hx2⟩ Fin hF
      obtain ⟨c1, hc1, hf1⟩ := hA1.get hx1
      obtain ⟨c2, hc2, hf2⟩ := hA2.get hx2
      have s4 := same_new (o := .tup [x1, x2]) hT1
      have e4 : upd H3 T1 (.tup [x1, x2]) T1 = some (.tup [x1, x2]) := upd_same
      have q1 := SqT.of (K := K) e4
      have hf1' := hf1.mono (same_t (s3.trans s4))
      have hf2' := hf2.mono (same_t (s3.trans s4))
      generalize upd H3 T1 (.tup [x1, x2]) = H5 at *
      have z1 : Qz 3900 c1 := (zp1 c1 (List.mem_of_getElem? hc1)).mono hb1
      have z2 : Qz 3900 c2 := (zq1 c2 (List.mem_of_getElem? hc2)).mono hb1
      walk_at "rd"
      intro v H' s5 hv
      exact hF _ _ (s4.trans s5) (by rw [getD_some hc1, getD_some hc2]; exact hv)
    · intro H3 acc s3 hacc hlen1 hel
      have hA3 : FrA K H3 acc ((List.range M).map fun i => ps1.getD i 0 - qs1.getD i 0) := al_of_get hlen1 hel
      refine ⟨D, acc, _, rfl, SqL.of hacc, hA3, by omega, fun v H' k s4 ht hz hv => ?_⟩
      refine q v _ H' (((s1.trans s2).trans s3).trans s4) hv ht (fun z => ?_) (fun c hc => ?_) ?_
      · rw [ev_take_drop _ _ hz]
        rw [← hl1, ev_zip_sub ps1 qs1 (by omega), ep, eq']
      · obtain ⟨i, hi, rfl⟩ := List.mem_map.mp (List.mem_of_mem_take hc)
        have hi' := List.mem_range.mp hi
        have g1 : ps1.getD i 0 ∈ ps1 := by rw [getD_some (List.getElem?_eq_getElem (show i < ps1.length by omega))]; exact List.getElem_mem _
        have g2 : qs1.getD i 0 ∈ qs1 := by rw [getD_some (List.getElem?_eq_getElem (show i < qs1.length by omega))]; exact List.getElem_mem _
        exact Qz.sub (zp1 _ g1) (zq1 _ g2)
      · rw [List.length_take, List.length_map, List.length_range]
        omega
end

end Vx
namespace Vx
open PySem PySem.Spec PyProof.Rows L2
local macro_rules | `(tactic| walk_at "cl") => `(tactic| first | rfl | assumption | omega | exact sz_of 0 rfl (by decide) | exact sz_of 1 rfl (by decide) | exact sz_of 2 rfl (by decide) | exact sz_of 3 rfl (by decide) | exact cmulx (by assumption) (by assumption) (by decide) | exact Bz.mono (Bz.mul (by assumption) (by assumption)) (by decide) | decide)
local macro_rules | `(tactic| walk_at "ex") => `(tactic| ((show Exists _); first | apply @Exists.intro V | apply @Exists.intro Int | apply @Exists.intro Addr | apply @Exists.intro (List V) | apply @Exists.intro Nat | apply @Exists.intro Str | apply @Exists.intro Bool | apply @Exists.intro (Option V) | apply @Exists.intro String | apply @Exists.intro Rat | apply @Exists.intro (List Rat)))
local macro_rules | `(tactic| walk_at "rd") => `(tactic| ((repeat (first | (walk_at "ex") | (apply And.intro; (focus (walk_at "cl"))))); (try dsimp only [])))
local macro_rules | `(tactic| walk_at "r0") => `(tactic| (repeat (first | (walk_at "ex") | (apply And.intro; (focus (walk_at "cl"))))))

section
variable {P : Program} {w : World} {K : PySem.W.Frag} {mg : Str → Option Value} {base : Heap}
/-- whole_product -/
def spWProd (K : PySem.W.Frag) : Sp := fun vs H Q _ => ∃ (l1 l2 : Addr) (ns ms : List Int) (a b : Nat), vs = [.ref l1, .ref l2] ∧ SqL K H l1 (ns.map V.int) ∧ SqL K H l2 (ms.map V.int) ∧ (∀ n ∈ ns, Bz a n) ∧ (∀ m ∈ ms, Bz b m) ∧ a + b ≤ 100000 ∧ ns.length < 1000 ∧ ms.length < 1000 ∧
  ∀ (p : Addr) (rs : List Int) (H' : Hp), H p = none → Same H H' → H' p = some (.lst (rs.map V.int)) → rs.length = ns.length + ms.length → (∀ x, ev (toR rs) x = ev (toR ns) x * ev (toR ms) x) → (∀ r ∈ rs, Bz (a + b + 10) r) → Q (.ref p) H'
theorem sc_whole_product : FnScope ["ours", "theirs", "numbers", "i", "x", "j", "y"] ["ours", "theirs"] (defScope s_whole_product) := ⟨rfl, rfl, rfl, by decide +kernel, rfl, by decide +kernel, by decide +kernel⟩
theorem d_whole_product (W : FunIn K mg "whole_product" s_whole_product) (T : Blt mg) : Df P w K mg base "whole_product" 1 ["ours", "theirs"] (spWProd K) := by
  obtain ⟨f, fd, F, hm⟩ := W
  refine ⟨f, fd, F.ok sc_whole_product (fun vs H Q E h => ?_) (fun cdv A outer s H vs Q E hr h => ?_), hm, F.kp, F.binds fun _ _ _ _ _ _ us hl => match us, hl with | [_, _], _ => rfl⟩
  · obtain ⟨l1, l2, ns, ms, a, b, rfl, _⟩ := h
    rfl
  · obtain ⟨l1, l2, ns, ms, a, b, rfl, h1, h2, hza, hzb, hab, ln, lm, q⟩ := h
    have nd := sc_whole_product.nd
    have h1' : SqL K H l1 (ns.map V.int) ∨ SqT K H l1 (ns.map V.int) := Or.inl h1
    refine ⟨_, (pss_cons (ps_set (i := 2) nd rfl (Or.inl rfl) (pe_op op_rep (pe_lst (pa_cons pe_int pa_nil)) (pe_op op_add (pe_callB call_len_seq (by rfl) T.n_len (by decide +kernel) (pa_cons (pv 0) pa_nil)) (pe_callB call_len_seq (by rfl) T.n_len (by decide +kernel) (pa_cons (pv 1) pa_nil)))))
        (pss_cons (ps_for PassesOwn.never rfl (pi_enum (by rfl) T.n_enumerate (pa_cons (pv 0) pa_nil)) (pg_tup rfl (pgs_cons (pg_name (i := 3) nd rfl (Or.inl rfl) (Or.inr rfl)) (pgs_cons (pg_name (i := 4) nd rfl (Or.inl rfl) (Or.inr rfl)) pgs_nil))) (pss_one (ps_for PassesOwn.never rfl (pi_enum (by rfl) T.n_enumerate (pa_cons (pv 1) pa_nil)) (pg_tup rfl (pgs_cons (pg_name (i := 5) nd rfl (Or.inl rfl) (Or.inr rfl)) (pgs_cons (pg_name (i := 6) nd rfl (Or.inl rfl) (Or.inr rfl)) pgs_nil))) (pss_one (ps_augS (pv 2) (pe_op op_add (pv 3) (pv 5)) get_list (pe_op op_mulX (pv 4) (pv 6)) ip_add set_list)))))
        (pss_one (ps_ret (pv 2))))), ?_⟩
    walk_at "rd"
    intro p0 hp0
    have s0 := same_new (o := .lst [V.int 0]) hp0
    have e0 : upd H p0 (.lst [V.int 0]) p0 = some (.lst [V.int 0]) := upd_same
    generalize upd H p0 (.lst [V.int 0]) = H0 at s0 e0
    have h1' : SqL K H0 l1 (ns.map V.int) ∨ SqT K H0 l1 (ns.map V.int) := Or.inl (s0.seq h1)
    have h2' : SqL K H0 l2 (ms.map V.int) ∨ SqT K H0 l2 (ms.map V.int) := Or.inl (s0.seq h2)
    have hlr : ((ns.map V.int).length : Int) + ((ms.map V.int).length : Int) = ((ns.length + ms.length : Nat) : Int) := by
      rw [List.length_map, List.length_map]
      omega
    walk_at "rd"
    rw [hlr]
    refine ⟨?_, fun p hp => ?_⟩
    · show 1 * _ ≤ _
      rw [Int.toNat_natCast, sizeLine_eq]
      omega
    have ef : (List.replicate ((ns.length + ms.length : Nat) : Int).toNat [V.int 0]).flatten = ((List.replicate (ns.length + ms.length) (0 : Int)).map V.int) := by
      rw [Int.toNat_natCast]
      generalize ns.length + ms.length = k
      induction k with
      | zero => rfl
      | succ k ih => rw [List.replicate_succ, List.flatten_cons, ih, List.replicate_succ]; rfl
    rw [ef]
    have hpH : H p = none := s0.free hp
    have s1 : Same H (upd H0 p (.lst ((List.replicate (ns.length + ms.length) (0 : Int)).map V.int))) := s0.trans (same_new hp)
    have e1 : upd H0 p (.lst ((List.replicate (ns.length + ms.length) (0 : Int)).map V.int)) p = some (.lst ((List.replicate (ns.length + ms.length) (0 : Int)).map V.int)) := upd_same
    generalize upd H0 p (.lst ((List.replicate (ns.length + ms.length) (0 : Int)).map V.int)) = H1 at s1 e1
    refine ⟨V.ref l1, rfl, l1, ns.map V.int, rfl, s1.seq h1, for_it (walk_enum (K := K) (a := l1) (xs := ns.map V.int)) (fun i σ H' => ∃ (rs : List Int) (o1 o2 o3 o4 : Option V), σ = [some (.ref l1), some (.ref l2), some (.ref p), o1, o2, o3, o4] ∧ Same H H' ∧ H' p = some (.lst (rs.map V.int)) ∧ rs.length = ns.length + ms.length ∧ (∀ x, ev (toR rs) x = ev (toR (ns.take i)) x * ev (toR ms) x) ∧ ∀ r ∈ rs, r.natAbs ≤ i * 2 ^ (a + b))
      ⟨_, none, none, none, none, rfl, s1, e1, List.length_replicate, fun x => ?_, fun r hr => ?_⟩ (fun i σ H' _ ⟨_, _, _, _, _, _, s, _⟩ => s.seq h1) ?_ ?_⟩
    · rw [toR_rep, List.take_zero]
      show (0 : Rat) = 0 * _
      grind
    · rw [(List.mem_replicate.mp hr).2]
      exact Nat.zero_le _
    · rintro i _ σ H2 _ hi ⟨rs, o1, o2, o3, o4, rfl, s2, e2, lr, hev, hbd⟩ ⟨T1, _, y, rfl, hT1, rfl, ⟨⟩, hy⟩
      have hy : (ns.map V.int)[i]? = some y := hy
      rw [List.getElem?_map] at hy
      obtain ⟨n, hn, rfl⟩ := Option.map_eq_some_iff.mp hy
      rw [List.length_map] at hi
      have s3 := same_new (o := .tup [V.int (i : Nat), V.int n]) hT1
      have q1 : SqT K (upd H2 T1 (.tup [V.int (i : Nat), V.int n])) T1 [V.int (i : Nat), V.int n] := SqT.of upd_same
      have e3 := s3 _ _ e2
      have s23 := s2.trans s3
      generalize upd H2 T1 (.tup [V.int (i : Nat), V.int n]) = H3 at *
      refine ⟨T1, _, rfl, q1, rfl, _, _, rfl, _, _, rfl, rfl, ?_⟩
      refine ⟨V.ref l2, rfl, l2, ms.map V.int, rfl, s23.seq h2, for_it (walk_enum (K := K) (a := l2) (xs := ms.map V.int)) (fun j σ H' => ∃ (rs : List Int) (o3 o4 : Option V), σ = [some (.ref l1), some (.ref l2), some (.ref p), some (.int (i : Nat)), some (.int n), o3, o4] ∧ Same H H' ∧ H' p = some (.lst (rs.map V.int)) ∧ rs.length = ns.length + ms.length ∧ (∀ x, ev (toR rs) x = ev (toR (ns.take i)) x * ev (toR ms) x + (n : Rat) * x ^ i * ev (toR (ms.take j)) x) ∧ ∀ k r, rs[k]? = some r → r.natAbs ≤ (if k < i + j then i + 1 else i) * 2 ^ (a + b))
        ⟨rs, o3, o4, rfl, s23, e3, lr, fun x => ?_, fun k r hr => ?_⟩ (fun j σ H' _ ⟨_, _, _, _, s, _⟩ => s.seq h2) ?_ ?_⟩
      · rw [hev, List.take_zero]
        show _ = _ + _ * 0
        grind
      · refine Nat.le_trans (hbd r (List.mem_of_getElem? hr)) (Nat.mul_le_mul_right _ ?_)
        split <;> omega
      · rintro j _ σ H4 _ hj ⟨rs, o3, o4, rfl, s4, e4, lr, hev, hbd⟩ ⟨T2, _, y, rfl, hT2, rfl, ⟨⟩, hy⟩
        have hy : (ms.map V.int)[j]? = some y := hy
        rw [List.getElem?_map] at hy
        obtain ⟨m, hm', rfl⟩ := Option.map_eq_some_iff.mp hy
        rw [List.length_map] at hj
        have s5 := same_new (o := .tup [V.int (j : Nat), V.int m]) hT2
        have q2 : SqT K (upd H4 T2 (.tup [V.int (j : Nat), V.int m])) T2 [V.int (j : Nat), V.int m] := SqT.of upd_same
        have e5 := s5 _ _ e4
        have s45 := s4.trans s5
        generalize upd H4 T2 (.tup [V.int (j : Nat), V.int m]) = H5 at *
        have hk : i + j < rs.length := by omega
        have hr : rs[i + j]? = some rs[i + j] := List.getElem?_eq_getElem hk
        have hij : (i : Int) + (j : Int) = ((i + j : Nat) : Int) := by omega
        have z1 : Bz a n := hza n (List.mem_of_getElem? hn)
        have z2 : Bz b m := hzb m (List.mem_of_getElem? hm')
        have c1 : CMulX n m := cmulx z1 z2 hab
        have g1 : SqL K H5 p (rs.map V.int) := SqL.of e5
        have g2 : (rs.map V.int)[((i : Int) + (j : Int)).toNat]? = some (V.int rs[i + j]) := by
          rw [hij, Int.toNat_natCast, List.getElem?_map, hr]
          rfl
        have g3 : (0 : Int) ≤ (i : Int) + (j : Int) := by omega
        have g4 : ixN (rs.map V.int).length ((i : Int) + (j : Int)) = some (i + j) := by
          unfold ixN
          rw [List.length_map, hij]
          rw [if_pos (by omega)]
          show (if _ then _ else _) = _
          rw [if_pos (by omega)]
          exact congrArg some (by omega)
        have g5 : (rs.map V.int).set (i + j) (V.int (rs[i + j] + n * m)) = ((rs.set (i + j) (rs[i + j] + n * m)).map V.int) := by rw [List.map_set]
        refine ⟨T2, _, rfl, q2, rfl, _, _, rfl, _, _, rfl, rfl, ?_⟩
        walk_at "rd"
        rw [g5]
        refine ⟨rs.set (i + j) (rs[i + j] + n * m), _, _, rfl, fun c o e => ?_, upd_same, by rw [List.length_set]; exact lr, fun x => ?_, fun k r hr' => ?_⟩
        · rw [upd_ne (ne_of_none e hpH)]
          exact s45 _ _ e
        · rw [toR_set hk, hev, toR_take_succ hm', rpow_add]
          push_cast
          grind
        · rw [List.getElem?_set] at hr'
          split at hr'
          · rename_i hkk
            subst hkk
            cases hr'
            have b1 := hbd (i + j) _ hr
            rw [if_neg (by omega)] at b1
            rw [if_pos (by omega)]
            have b2 : (n * m).natAbs < 2 ^ (a + b) := Bz.mul z1 z2
            have b3 : (rs[i + j] + n * m).natAbs ≤ rs[i + j].natAbs + (n * m).natAbs := Int.natAbs_add_le _ _
            rw [Nat.add_mul, Nat.one_mul]
            omega
          · refine Nat.le_trans (hbd k r hr') (Nat.mul_le_mul_right _ ?_)
            split <;> split <;> omega
      · rintro σ H4 ⟨rs, o3, o4, rfl, s4, e4, lr, hev, hbd⟩
        refine ⟨rs, _, _, _, _, rfl, s4, e4, lr, fun x => ?_, fun r hr => ?_⟩
        · rw [hev, toR_take_succ hn, List.length_map, List.take_length]
          grind
        · obtain ⟨k, hk⟩ := List.mem_iff_getElem?.mp hr
          refine Nat.le_trans (hbd k r hk) (Nat.mul_le_mul_right _ ?_)
          split <;> omega
    · rintro σ H2 ⟨rs, o1, o2, o3, o4, rfl, s2, e2, lr, hev, hbd⟩
      rw [List.length_map] at hev hbd
      rw [List.take_length] at hev
      walk_at "rd"
      exact q p rs H2 hpH s2 e2 lr hev fun r hr => mul_le_pow (hbd r hr) ln
end
section
variable {P : Program} {w : World} {K : PySem.W.Frag} {mg : Str → Option Value} {base : Heap}
theorem toR_scale {ns : List Int} {qs : List Rat} {D : Rat} (h : ns.map (fun (n : Int) => (n : Rat)) = qs.map (D * ·)) (x : Rat) : ev (toR ns) x = D * ev qs x := by
  unfold toR
  rw [h, ev_scale]
/-- times -/
def bTimes (l1 b1 l2 b2 : Nat) : Nat := (l1 + 1) * b1 + (l2 + 1) * b2 + 12
def spTimes (K : PySem.W.Frag) : Sp := fun vs H Q _ => ∃ (x y : V) (ps qs : List Rat) (b1 b2 : Nat), vs = [x, y] ∧ RwT K H x ps ∧ RwT K H y qs ∧ Qs b1 ps ∧ Qs b2 qs ∧ ps.length < 400 ∧ qs.length < 400 ∧ bTimes ps.length b1 qs.length b2 ≤ 8000 ∧
  ∀ v r H', Same H H' → RwT K H' v r → Tr r → (∀ z, ev r z = ev ps z * ev qs z) → Qs (bTimes ps.length b1 qs.length b2) r → r.length ≤ ps.length + qs.length → Q v H'
theorem sc_times : FnScope ["row", "other", "ours", "under", "theirs", "unit"] ["row", "other"] (defScope s_times) := ⟨rfl, rfl, rfl, by decide +kernel, rfl, by decide +kernel, by decide +kernel⟩
theorem d_times (W : FunIn K mg "times" s_times) (Dcleared : Df P w K mg base "cleared" 1 ["row"] (spClear K)) (Dwhole_product : Df P w K mg base "whole_product" 1 ["ours", "theirs"] (spWProd K)) (Drow_over : Df P w K mg base "row_over" 3 ["numbers", "under"] (spOver K)) : Df P w K mg base "times" 4 ["row", "other"] (spTimes K) := by
  obtain ⟨f, fd, F, hm⟩ := W
  refine ⟨f, fd, F.ok sc_times (fun vs H Q E h => ?_) (fun cdv A outer s H vs Q E hr h => ?_), hm, F.kp, F.binds fun _ _ _ _ _ _ us hl => match us, hl with | [_, _], _ => rfl⟩
  · obtain ⟨x, y, ps, qs, b1, b2, rfl, _⟩ := h
    rfl
  · obtain ⟨x, y, ps, qs, b1, b2, rfl, hx, hy, zp, zq, lp, lq, hb, q⟩ := h
    have nd := sc_times.nd
    unfold bTimes at hb
    have m1 : (ps.length + 1) * b1 = ps.length * b1 + b1 := by rw [Nat.add_mul, Nat.one_mul]
    have m2 : (qs.length + 1) * b2 = qs.length * b2 + b2 := by rw [Nat.add_mul, Nat.one_mul]
    refine ⟨_, (pss_cons (ps_asg (pe_d Dcleared (hr.mono (by decide)) rfl (pa_cons (pv 0) pa_nil)) (pg_tup rfl (pgs_cons (pg_name (i := 2) nd rfl (Or.inl rfl) (Or.inr rfl)) (pgs_cons (pg_name (i := 3) nd rfl (Or.inl rfl) (Or.inr rfl)) pgs_nil))))
        (pss_cons (ps_asg (pe_d Dcleared (hr.mono (by decide)) rfl (pa_cons (pv 1) pa_nil)) (pg_tup rfl (pgs_cons (pg_name (i := 4) nd rfl (Or.inl rfl) (Or.inr rfl)) (pgs_cons (pg_name (i := 5) nd rfl (Or.inl rfl) (Or.inr rfl)) pgs_nil))))
        (pss_one (ps_ret (pe_d Drow_over (hr.mono (by decide)) rfl (pa_cons (pe_d Dwhole_product (hr.mono (by decide)) rfl (pa_cons (pv 2) (pa_cons (pv 4) pa_nil))) (pa_cons (pe_op op_mulX (pv 3) (pv 5)) pa_nil))))))), ?_⟩
    refine ⟨x, rfl, x, ps, b1, rfl, hx, zp, by omega, by omega, fun t1 l1 ns D1 H1 s1 ht1 hl1 hn1 hD1 hz1 hzn1 he1 => ?_⟩
    refine ⟨t1, _, rfl, ht1, rfl, _, _, rfl, _, _, rfl, rfl, ?_⟩
    have hy1 := RwT.mono (same_t s1) hy
    refine ⟨y, rfl, y, qs, b2, rfl, hy1, zq, by omega, by omega, fun t2 l2 ms D2 H2 s2 ht2 hl2 hn2 hD2 hz2 hzn2 he2 => ?_⟩
    refine ⟨t2, _, rfl, ht2, rfl, _, _, rfl, _, _, rfl, rfl, ?_⟩
    have hl1' : SqL K H2 l1 (ns.map V.int) := s2.seq (SqL.of hl1)
    have hl2' : SqL K H2 l2 (ms.map V.int) := SqL.of hl2
    refine ⟨_, rfl, _, rfl, l1, l2, ns, ms, _, _, rfl, hl1', hl2', hzn1, hzn2, by omega, by omega, by omega, fun p rs H3 hp s3 e3 lr hev hbd => ?_⟩
    have c1 : CMulX D1 D2 := cmulx hz1 hz2 (by omega)
    have hDD : D1 * D2 ≠ 0 := Int.mul_ne_zero (by omega) (by omega)
    have hDz : Bz 8000 (D1 * D2) := (Bz.mul hz1 hz2).mono (by omega)
    have e3' : SqL K H3 p (rs.map V.int) := SqL.of e3
    refine ⟨_, rfl, _, rfl, D1, D2, rfl, rfl, c1, ?_⟩
    refine ⟨p, rs, D1 * D2, rfl, e3', hDD, hDz, by omega, fun v r H4 s4 hv ht he hq hl => ?_⟩
    refine q v r H4 (((s1.trans s2).trans s3).trans s4) hv ht (fun z => ?_) ?_ (by omega)
    · rw [he, hev, toR_scale he1, toR_scale he2]
      have h1 : (D1 : Rat) ≠ 0 := by exact_mod_cast (show D1 ≠ 0 by omega)
      have h2 : (D2 : Rat) ≠ 0 := by exact_mod_cast (show D2 ≠ 0 by omega)
      push_cast
      grind
    · unfold bTimes
      refine hq _ (fun n hn => (hbd n hn).mono (by omega)) ((Bz.mul hz1 hz2).mono (by omega))
/-- worth_of -/
def bWorth (l b c : Nat) : Nat := l * (b + c + 1) + 1
def spWorth (K : PySem.W.Frag) : Sp := fun vs H Q _ => ∃ (x y : V) (qs : List Rat) (z : Rat) (b c : Nat), vs = [x, y] ∧ RwT K H x qs ∧ FrT K H y z ∧ Qs b qs ∧ Qz c z ∧ qs.length < 400 ∧ bWorth qs.length b c + b + c ≤ 3900 ∧
  ∀ v H', Same H H' → FrT K H' v (ev qs z) → Qz (bWorth qs.length b c) (ev qs z) → Q v H'
end

end Vx
namespace Vx
open PySem PySem.Spec PyProof.Rows L2
local macro_rules | `(tactic| walk_at "cl") => `(tactic| first | rfl | assumption | omega | exact sz_of 0 rfl (by decide) | exact sz_of 1 rfl (by decide) | exact sz_of 2 rfl (by decide) | exact sz_of 3 rfl (by decide) | exact cmulx (by assumption) (by assumption) (by decide) | exact Bz.mono (Bz.mul (by assumption) (by assumption)) (by decide) | decide)
local macro_rules | `(tactic| walk_at "ex") => `(tactic| ((show Exists _); first | apply @Exists.intro V | apply @Exists.intro Int | apply @Exists.intro Addr | apply @Exists.intro (List V) | apply @Exists.intro Nat | apply @Exists.intro Str | apply @Exists.intro Bool | apply @Exists.intro (Option V) | apply @Exists.intro String | apply @Exists.intro Rat | apply @Exists.intro (List Rat)))
local macro_rules | `(tactic| walk_at "rd") => `(tactic| ((repeat (first | (walk_at "ex") | (apply And.intro; (focus (walk_at "cl"))))); (try dsimp only [])))
local macro_rules | `(tactic| walk_at "r0") => `(tactic| (repeat (first | (walk_at "ex") | (apply And.intro; (focus (walk_at "cl"))))))

section
variable {P : Program} {w : World} {K : PySem.W.Frag} {mg : Str → Option Value} {base : Heap}
def spIsFr (K : PySem.W.Frag) : Sp := fun vs H Q _ => ∃ (x : V) (q : Rat), vs = [x] ∧ FrT K H x q ∧ Q (.bl true) H
theorem rat_gcd (q : Rat) : (decide (0 < (q.den : Int)) && ((q.num.natAbs.gcd (q.den : Int).natAbs : Nat) : Int) == 1) = true := by
  have h1 := q.den_nz
  have h2 : q.num.natAbs.gcd q.den = 1 := q.reduced
  rw [Int.natAbs_natCast, h2]
  simp
  omega
theorem frt_low {X : Cx} {pins : List (Addr × Obj)} {σ : L2.St} {H : Hp} {s : Shared} {x : V} {q : Rat} (I : Inv X pins σ H s) (h : FrT X.K H x q) : ∃ (a : Addr) (k1 k2 : Tok), x = .ref a ∧ s.heap.IsTuple a #[.int q.num k1, .int q.den k2] := by
  obtain ⟨a, rfl, hs⟩ := h
  obtain ⟨its, rv, p, _⟩ := I.tuple hs
  obtain ⟨u, v, rfl, ⟨k1, rfl⟩, ⟨k2, rfl⟩⟩ := vals2 rv
  exact ⟨a, k1, k2, rfl, p⟩
theorem d_is_fraction (W : FunIn K mg "is_fraction" s_is_fraction) (Ww : FunIn K mg "is_whole" s_is_whole) (T : Blt mg) : Df P w K mg base "is_fraction" 1 ["value"] (spIsFr K) := by
  obtain ⟨f, fd, F, hm⟩ := W
  obtain ⟨fw, fdw, Fw, hmw⟩ := Ww
  have bW : Binds K fdw ["value"] [] := Fw.binds fun _ _ _ _ _ _ us hl => match us, hl with | [_], _ => rfl
  refine ⟨f, fd, ⟨fun vs H Q E h => ?_, fun A outer s H args us vs Q E hr e0 hbd r h => ?_⟩, hm, F.kp, F.binds fun _ _ _ _ _ _ us hl => match us, hl with | [_], _ => rfl⟩
  · obtain ⟨x, q, rfl, _⟩ := h
    rfl
  · obtain ⟨x, q, rfl, ⟨a, rfl, hs⟩, hq⟩ := h
    obtain ⟨u, rfl, ru⟩ := vals1 r
    cases ru
    have M : L2.Mod K mg s.heap := mod_keeps e0.mod fun b o e => (e0.bs b o e).1
    obtain ⟨k1, k2, hT⟩ : ∃ k1 k2 : Tok, s.heap.IsTuple a #[.int q.num k1, .int q.den k2] := by
      rcases hs with hs | ⟨o, its, n, hk, hc, hd, hz, rv⟩
      · obtain ⟨_, its, rv, p⟩ := hs.ok e0.hok
        obtain ⟨u, v, rfl, ⟨k1, rfl⟩, ⟨k2, rfl⟩⟩ := vals2 rv
        exact ⟨k1, k2, p⟩
      · obtain ⟨u, v, e, ⟨k1, rfl⟩, ⟨k2, rfl⟩⟩ := vals2 rv
        refine ⟨k1, k2, o, M.kin _ _ hk, hc, n, ?_⟩
        rw [hd]
        have : its = #[Value.int q.num k1, Value.int q.den k2] := by
          rw [← Array.toList_inj]
          exact e
        rw [this]
    refine codeAny_mono (lw_frac F Fw hmw T M hT hr.hd (by have := hr.dp; omega) hbd fun s v k => bW s [v] k rfl) fun r s' hq' => ?_
    obtain ⟨rfl, h', tk, rfl, k⟩ := hq'
    rw [rat_gcd]
    exact ⟨.bl true, H, rfl, e0.bare, Un.kept k, e0.hok.kept k, rfl, hq⟩
end
section
variable {P : Program} {w : World} {K : PySem.W.Frag} {mg : Str → Option Value} {base : Heap}
/-- a row: the last number is not 0 -/
def spIsRow (K : PySem.W.Frag) (tb : Addr) : Sp := fun vs H Q _ => ∃ (x : V) (qs : List Rat), vs = [x] ∧ RwT K H x qs ∧ Tr qs ∧ H tb = some (tabX tb) ∧ ∀ H', Same H H' → Q (.bl true) H'
theorem sc_is_row : FnScope ["value"] ["value"] (defScope s_is_row) := ⟨rfl, rfl, rfl, by decide +kernel, rfl, by decide +kernel, by decide +kernel⟩
def EhRow (K : PySem.W.Frag) (tb : Addr) (H : Hp) (xs : List V) (bs : List Bool) : Prop := H tb = some (tabX tb) ∧ bs = List.replicate xs.length true ∧ ∀ x ∈ xs, ∃ q, FrT K H x q
theorem d_is_row {c tb aNIL : Addr} (W : FunC K mg "is_row" s_is_row c tb) (WF : FunIn K mg "is_fraction" s_is_fraction) (Ww : FunIn K mg "is_whole" s_is_whole) (T : Blt mg) (hNIL : NilC K mg aNIL) (TB : GxR.TabB base mg c tb) (hPn : K.lookup tb = none) :
    Df P w K mg base "is_row" 2 ["value"] (spIsRow K tb) := by
  obtain ⟨f, oc, od, kV, doc, pm, an, ct, osl, lk, hcd, hkp, hm⟩ := W.ex
  obtain ⟨fF, fdF, FF, hmF⟩ := WF
  obtain ⟨fw, fdw, Fw, hmw⟩ := Ww
  have bW : Binds K fdw ["value"] [] := Fw.binds fun _ _ _ _ _ _ us hl => match us, hl with | [_], _ => rfl
  have bF : Binds K fdF ["value"] [] := FF.binds fun _ _ _ _ _ _ us hl => match us, hl with | [_], _ => rfl
  refine ⟨f, _, (fn_of lk hcd sc_is_row (fun vs H Q E h => ?_) fun A outer s H vs Q E hr h => ?_ : FnOk P w K mg base CX0 2 f _ ["value"] (spIsRow K tb)), hm, hkp, .all fun us hl => match us, hl with | [_], _ => rfl⟩
  · obtain ⟨x, qs, rfl, _⟩ := h
    rfl
  · obtain ⟨x, qs, rfl, ⟨a, us, rfl, ha, hA⟩, ht, htb, q⟩ := h
    have nd := sc_is_row.nd
    have hL := hA.length
    have hrow : RwT K H (.ref a) qs := ⟨a, us, rfl, ha, hA⟩
    refine ⟨_, (pss_cons (ps_if (pt_cmpR op_isNotTy (pe_callTy call_typeT (by rfl) T.n_type (by decide +kernel) (pa_cons (pv 0) pa_nil)) (pe_bltn (by rfl) T.n_tuple (by rfl) (v := .ty "tuple") rfl) (nomark _)) (pss_one (ps_ret pe_bl)) pss_nil)
      (pss_one (ps_ret (pe_and (pe_allT (c := c) (P := tb) (EH := EhRow K tb) hr (by rfl) T.n_all (by decide +kernel) TB rfl ?S (pv 0) ?hel (by intro _; rfl)) (pe_one (pe_or (pe_cmpR (op_eqD (hu64 hr)) (pv 0) (pe_tup pa_nil) (nomark _)) (pe_one (pe_cmpR (op_neD (hu64 hr)) (pe_ix ix_tup (pv 0) (pe_un un_neg pe_int) (fun _ _ => rfl)) (pe_glob (v := .ref aNIL) rfl hNIL.g rfl) (nomark _))))))))), ?_⟩
    case S =>
      exact ⟨rfl, rfl, by decide, rfl, rfl, fun y hy e => by
        simp only [List.mem_cons, List.not_mem_nil, or_false] at hy
        rcases hy with rfl | rfl | rfl <;> cases e⟩
    case hel =>
      intro pins σ H1 s1 xs its bs I rv hE
      obtain ⟨htb1, rfl, hfr⟩ := hE
      intro cenv A' E' j u b s₂ m₂ hsc hgl hbl hhd hdp hun hk hj hb hn hmu
      obtain ⟨hj1, hj2⟩ := List.getElem?_eq_some_iff.mp hb
      have hb' : b = true := by
        rw [List.getElem_replicate] at hj2
        exact hj2.symm
      subst hb'
      rw [List.length_replicate] at hj1
      have hx : xs[j]? = some xs[j] := List.getElem?_eq_getElem hj1
      obtain ⟨q0, hq0⟩ := hfr _ (List.mem_of_getElem? hx)
      obtain ⟨a', k1, k2, ea, hT⟩ := frt_low I hq0
      obtain ⟨u', hu', ru⟩ := rv.get hx
      rw [hj] at hu'
      cases hu'
      rw [ea] at ru
      obtain rfl : u = Value.ref a' := ru
      obtain ⟨ps, hps, _⟩ := inv_tab1 I htb1
      have naP : a' ≠ tb := fun z => by
        obtain ⟨o, ho, hc, n, hd⟩ := hT
        rw [z, hps] at ho
        cases ho
        cases hd
      have hT2 : s₂.heap.IsTuple a' #[.int q0.num k1, .int q0.den k2] := by
        obtain ⟨o, ho, r⟩ := hT
        exact ⟨o, hk _ _ naP ho, r⟩
      have M1 : L2.Mod K mg s1.heap := mod_keeps I.ok.mod I.bk
      have M2 : L2.Mod K mg s₂.heap := mod_but M1 hPn hps hk
      have hkd : cenv.scope.kind = .function := by rw [hsc]
      have hl1 : cenv.kindOf "is_fraction" = some .globalImplicit := by
        unfold Env.kindOf
        rw [hsc]
        rfl
      have hl2 : cenv.kindOf "number" = some .local := by
        unfold Env.kindOf
        rw [hsc]
        rfl
      refine wpAny_Call_Name_kw (Calls.Name_function_global hkd hl1 (Calls.loadGlobal_global (mg := mg) (by rw [hgl]; exact M2.glob) hmF ?_))
      refine PySem.W.callWith_K (h₀ := s₂.heap) M2.kin FF.kp (Calls.spliced_cons (wpAny_Name (wpAny_loadName_local hkd hl2 hn hmu (Calls.spliced_nil ⟨M2.kin, ?_⟩))))
      have hdp' : A'.depth + 1 < recursionLimit := by
        have h1 : A'.depth ≤ (A.deeper (envOfC "is_row" (defScope s_is_row) s.heap.objs.size f (.ref c))).depth + 1 := hdp
        have h2 := hr.dp
        omega
      refine wpAny_call (codeAny_mono (lw_frac FF Fw hmw T M2 hT2 hhd hdp' (bF s₂ [.ref a'] M2.kin rfl) fun s v k => bW s [v] k rfl) fun r s3 hr3 => ?_)
      obtain ⟨rfl, hK⟩ := hr3
      show Value.bool _ = Value.bool true ∧ Keeps s₂ s3
      rw [rat_gcd]
      exact ⟨rfl, hK⟩
    walk_at "rd"
    refine ⟨List.replicate us.length true, rfl, ha, htb, List.length_replicate, ⟨htb, rfl, fun x hx => ?_⟩, true, congrArg V.bl (by simp), ?_⟩
    · obtain ⟨i, hi⟩ := List.mem_iff_getElem?.mp hx
      obtain ⟨r, _, hr⟩ := hA.get hi
      exact ⟨r, hr⟩
    rw [if_pos rfl]
    walk_at "rd"
    intro p hp
    have s1 := same_new (o := .tup []) hp
    have e1 : SqT K (upd H p (.tup [])) p [] := SqT.of upd_same
    have htb1 := s1 _ _ htb
    generalize upd H p (.tup []) = H1 at s1 e1 htb1
    have hrow1 := hrow.mono (same_t s1)
    refine rEqD_rw hrow1 (rwt_nil e1) ⟨_, rfl, ?_⟩
    refine tif (fun hq => q H1 s1) (fun hq => ?_)
    obtain ⟨r, hr1⟩ : ∃ r, qs[qs.length - 1]? = some r := ⟨_, List.getElem?_eq_getElem (by have := List.length_pos_iff.mpr hq; omega)⟩
    obtain ⟨u, hu, hfr⟩ := hA.get' hr1
    have hpos : 0 < qs.length := List.length_pos_iff.mpr hq
    have hr0 : r ≠ 0 := by
      have h1 := ht hq
      rw [List.getLast_eq_getElem] at h1
      rw [List.getElem?_eq_getElem (by omega)] at hr1
      rw [← Option.some.inj hr1]
      exact h1
    have hat : atI us (-1) = some u := by
      unfold atI ixN
      rw [if_neg (by decide), hL]
      show Option.bind (if _ then _ else _) _ = _
      rw [if_pos (by omega)]
      show us[_]? = _
      rw [← hu]
      congr 1
      omega
    have ha1 := same_seqT s1 ha
    walk_at "rd"
    refine rNeD_fr (hfr.mono (same_t s1)) (hNIL.fr H1) ?_
    rw [decide_eq_false hr0]
    exact q H1 s1
/-- check_row -/
def spCkRow (K : PySem.W.Frag) (tb : Addr) : Sp := fun vs H Q _ => ∃ (x : V) (qs : List Rat), vs = [x] ∧ RwT K H x qs ∧ Tr qs ∧ H tb = some (tabX tb) ∧ ∀ H', Same H H' → Q .non H'
theorem sc_check_row : FnScope ["given"] ["given"] (defScope s_check_row) := ⟨rfl, rfl, rfl, by decide +kernel, rfl, by decide +kernel, by decide +kernel⟩
theorem d_check_row {tb : Addr} (W : FunIn K mg "check_row" s_check_row) (Dis_row : Df P w K mg base "is_row" 2 ["value"] (spIsRow K tb)) : Df P w K mg base "check_row" 3 ["given"] (spCkRow K tb) := by
  obtain ⟨f, fd, F, hm⟩ := W
  refine ⟨f, fd, F.ok sc_check_row (fun vs H Q E h => ?_) (fun cdv A outer s H vs Q E hr h => ?_), hm, F.kp, F.binds fun _ _ _ _ _ _ us hl => match us, hl with | [_], _ => rfl⟩
  · obtain ⟨x, qs, rfl, _⟩ := h
    rfl
  · obtain ⟨x, qs, rfl, hx, ht, htb, q⟩ := h
    refine ⟨_, (pss_one (ps_if (pt_not (pt_val (pe_d Dis_row (hr.mono (by decide)) rfl (pa_cons (pv 0) pa_nil)))) (pss_one ps_absurd) pss_nil)), ?_⟩
    walk_at "rd"
    intro H' s1
    walk_at "rd"
    exact q H' s1
def spCkFr (K : PySem.W.Frag) : Sp := fun vs H Q _ => ∃ (x : V) (q : Rat), vs = [x] ∧ FrT K H x q ∧ Q .non H
end
section
variable {P : Program} {w : World} {K : PySem.W.Frag} {mg : Str → Option Value} {base : Heap}
/-- a promise over two rows that are checked first -/
def spCk (K : PySem.W.Frag) (tb : Addr) (sp : Sp) : Sp := fun vs H Q E => ∃ (x y : V) (ps qs : List Rat), vs = [x, y] ∧ RwT K H x ps ∧ RwT K H y qs ∧ Tr ps ∧ Tr qs ∧ H tb = some (tabX tb) ∧ ∀ H', Same H H' → sp [x, y] H' Q E
def spCkW (K : PySem.W.Frag) (tb : Addr) (sp : Sp) : Sp := fun vs H Q E => ∃ (x y : V) (ps : List Rat) (z : Rat), vs = [x, y] ∧ RwT K H x ps ∧ FrT K H y z ∧ Tr ps ∧ H tb = some (tabX tb) ∧ ∀ H', Same H H' → sp [x, y] H' Q E
theorem sc_row_sum : FnScope ["row", "other"] ["row", "other"] (defScope s_row_sum) := ⟨rfl, rfl, rfl, by decide +kernel, rfl, by decide +kernel, by decide +kernel⟩
theorem d_row_sum {tb : Addr} (W : FunIn K mg "row_sum" s_row_sum) (Dcheck_row : Df P w K mg base "check_row" 3 ["given"] (spCkRow K tb)) (Dplus : Df P w K mg base "plus" 3 ["row", "other"] (spRows K (fun p q => p + q))) : Dk P w K mg base "row_sum" 4 ["row", "other"] "other" "row" (spCk K tb (spRows K (fun p q => p + q))) := by
  obtain ⟨f, fd, F, hm⟩ := W
  refine ⟨f, fd, F.ok sc_row_sum (fun vs H Q E h => ?_) (fun cdv A outer s H vs Q E hr h => ?_), hm, F.kp, F.binds fun _ _ _ _ _ _ us hl => match us, hl with | [_, _], _ => rfl, ?_⟩
  · obtain ⟨x, y, ps, qs, rfl, _⟩ := h
    rfl
  · obtain ⟨x, y, ps, qs, rfl, hx, hy, tx, ty, htb, q⟩ := h
    refine ⟨_, (pss_cons (ps_expr (pe_d Dcheck_row (hr.mono (by decide)) rfl (pa_cons (pv 0) pa_nil)))
        (pss_cons (ps_expr (pe_d Dcheck_row (hr.mono (by decide)) rfl (pa_cons (pv 1) pa_nil)))
        (pss_one (ps_ret (pe_d Dplus (hr.mono (by decide)) rfl (pa_cons (pv 0) (pa_cons (pv 1) pa_nil))))))), ?_⟩
    walk_at "rd"
    intro H1 s1
    have hy1 := hy.mono (same_t s1)
    have htb1 := s1 _ _ htb
    walk_at "rd"
    intro H2 s2
    exact ⟨x, rfl, y, rfl, q H2 (s1.trans s2)⟩
  · obtain ⟨oc, od, kV, doc, pm, an, cdv, ct, osl, rfl, lk, hcd⟩ := F.ex
    exact fun s u v => BindsTo.of_eq (by first | rfl | with_unfolding_all rfl)
theorem sc_row_less : FnScope ["row", "other"] ["row", "other"] (defScope s_row_less) := ⟨rfl, rfl, rfl, by decide +kernel, rfl, by decide +kernel, by decide +kernel⟩
theorem d_row_less {tb : Addr} (W : FunIn K mg "row_less" s_row_less) (Dcheck_row : Df P w K mg base "check_row" 3 ["given"] (spCkRow K tb)) (Dminus : Df P w K mg base "minus" 3 ["row", "other"] (spRows K (fun p q => p - q))) : Dk P w K mg base "row_less" 4 ["row", "other"] "other" "row" (spCk K tb (spRows K (fun p q => p - q))) := by
  obtain ⟨f, fd, F, hm⟩ := W
  refine ⟨f, fd, F.ok sc_row_less (fun vs H Q E h => ?_) (fun cdv A outer s H vs Q E hr h => ?_), hm, F.kp, F.binds fun _ _ _ _ _ _ us hl => match us, hl with | [_, _], _ => rfl, ?_⟩
  · obtain ⟨x, y, ps, qs, rfl, _⟩ := h
    rfl
  · obtain ⟨x, y, ps, qs, rfl, hx, hy, tx, ty, htb, q⟩ := h
    refine ⟨_, (pss_cons (ps_expr (pe_d Dcheck_row (hr.mono (by decide)) rfl (pa_cons (pv 0) pa_nil)))
        (pss_cons (ps_expr (pe_d Dcheck_row (hr.mono (by decide)) rfl (pa_cons (pv 1) pa_nil)))
        (pss_one (ps_ret (pe_d Dminus (hr.mono (by decide)) rfl (pa_cons (pv 0) (pa_cons (pv 1) pa_nil))))))), ?_⟩
    walk_at "rd"
    intro H1 s1
    have hy1 := hy.mono (same_t s1)
    have htb1 := s1 _ _ htb
    walk_at "rd"
    intro H2 s2
    exact ⟨x, rfl, y, rfl, q H2 (s1.trans s2)⟩
  · obtain ⟨oc, od, kV, doc, pm, an, cdv, ct, osl, rfl, lk, hcd⟩ := F.ex
    exact fun s u v => BindsTo.of_eq (by first | rfl | with_unfolding_all rfl)
theorem sc_row_product : FnScope ["row", "other"] ["row", "other"] (defScope s_row_product) := ⟨rfl, rfl, rfl, by decide +kernel, rfl, by decide +kernel, by decide +kernel⟩
theorem d_row_product {tb : Addr} (W : FunIn K mg "row_product" s_row_product) (Dcheck_row : Df P w K mg base "check_row" 3 ["given"] (spCkRow K tb)) (Dtimes : Df P w K mg base "times" 4 ["row", "other"] (spTimes K)) : Dk P w K mg base "row_product" 5 ["row", "other"] "other" "row" (spCk K tb (spTimes K)) := by
  obtain ⟨f, fd, F, hm⟩ := W
  refine ⟨f, fd, F.ok sc_row_product (fun vs H Q E h => ?_) (fun cdv A outer s H vs Q E hr h => ?_), hm, F.kp, F.binds fun _ _ _ _ _ _ us hl => match us, hl with | [_, _], _ => rfl, ?_⟩
  · obtain ⟨x, y, ps, qs, rfl, _⟩ := h
    rfl
  · obtain ⟨x, y, ps, qs, rfl, hx, hy, tx, ty, htb, q⟩ := h
    refine ⟨_, (pss_cons (ps_expr (pe_d Dcheck_row (hr.mono (by decide)) rfl (pa_cons (pv 0) pa_nil)))
        (pss_cons (ps_expr (pe_d Dcheck_row (hr.mono (by decide)) rfl (pa_cons (pv 1) pa_nil)))
        (pss_one (ps_ret (pe_d Dtimes (hr.mono (by decide)) rfl (pa_cons (pv 0) (pa_cons (pv 1) pa_nil))))))), ?_⟩
    walk_at "rd"
    intro H1 s1
    have hy1 := hy.mono (same_t s1)
    have htb1 := s1 _ _ htb
    walk_at "rd"
    intro H2 s2
    exact ⟨x, rfl, y, rfl, q H2 (s1.trans s2)⟩
  · obtain ⟨oc, od, kV, doc, pm, an, cdv, ct, osl, rfl, lk, hcd⟩ := F.ex
    exact fun s u v => BindsTo.of_eq (by first | rfl | with_unfolding_all rfl)
end

end Vx
namespace Vx
open PySem PySem.Spec PyProof.Rows L2
local macro_rules | `(tactic| walk_at "cl") => `(tactic| first | rfl | assumption | omega | exact sz_of 0 rfl (by decide) | exact sz_of 1 rfl (by decide) | exact sz_of 2 rfl (by decide) | exact sz_of 3 rfl (by decide) | exact cmulx (by assumption) (by assumption) (by decide) | exact Bz.mono (Bz.mul (by assumption) (by assumption)) (by decide) | decide)
local macro_rules | `(tactic| walk_at "ex") => `(tactic| ((show Exists _); first | apply @Exists.intro V | apply @Exists.intro Int | apply @Exists.intro Addr | apply @Exists.intro (List V) | apply @Exists.intro Nat | apply @Exists.intro Str | apply @Exists.intro Bool | apply @Exists.intro (Option V) | apply @Exists.intro String | apply @Exists.intro Rat | apply @Exists.intro (List Rat)))
local macro_rules | `(tactic| walk_at "rd") => `(tactic| ((repeat (first | (walk_at "ex") | (apply And.intro; (focus (walk_at "cl"))))); (try dsimp only [])))
local macro_rules | `(tactic| walk_at "r0") => `(tactic| (repeat (first | (walk_at "ex") | (apply And.intro; (focus (walk_at "cl"))))))

section
variable {P : Program} {w : World} {K : PySem.W.Frag} {mg : Str → Option Value} {base : Heap}
theorem sc_pull : FnScope ["reel", "many", "digit", "seed"] ["reel", "many"] (defScope s__law_pull) := ⟨rfl, rfl, rfl, by decide +kernel, rfl, by decide +kernel, by decide +kernel⟩
theorem d_pull (W : FunIn K mg "_law_pull" s__law_pull) (T : Bls mg) : Df P w K mg base "_law_pull" 1 ["reel", "many"] spPull := by
  obtain ⟨f, fd, F, hm⟩ := W
  refine ⟨f, fd, F.ok sc_pull (fun vs H Q E h => ?_) (fun cdv A outer s H vs Q E hr h => ?_), hm, F.kp, F.binds fun _ _ _ _ _ _ us hl => match us, hl with | [_, _], _ => rfl⟩
  · obtain ⟨a, m, rfl, _⟩ := h
    rfl
  · obtain ⟨a, m, rfl, ⟨x, y, z, h0⟩, hm0, hm1, q⟩ := h
    have nd := sc_pull.nd
    refine ⟨_, (pss_cons (ps_if (pt_cmpR op_gt (pe_ix ix_list (pv 0) pe_int (fun _ _ => rfl)) pe_int (nomark _)) (pss_cons (ps_asg (pe_callB call_divmodW (by rfl) T.n_divmod (by decide +kernel) (pa_cons (pe_ix ix_list (pv 0) pe_int (fun _ _ => rfl)) (pa_cons (pv 1) pa_nil))) (pg_tup rfl (pgs_cons (pg_sub (pv 0) pe_int set_list) (pgs_cons (pg_name (i := 2) nd rfl (Or.inl rfl)) pgs_nil))))
        (pss_one (ps_ret (pv 2)))) pss_nil)
        (pss_cons (ps_asg (pe_op op_add (pe_ix ix_list (pv 0) pe_int (fun _ _ => rfl)) pe_int) (pg_sub (pv 0) pe_int set_list))
        (pss_cons (ps_set (i := 3) nd rfl (Or.inl rfl) (pe_op op_mod (pe_callTy call_int1 (by rfl) T.n_int (by decide +kernel) (pa_cons (pe_op op_add (pe_ix ix_list (pv 0) pe_int (fun _ _ => rfl)) (pe_op op_mul pe_int (pe_ix ix_list (pv 0) pe_int (fun _ _ => rfl)))) pa_nil)) pe_int))
        (pss_cons (ps_asg (pe_op op_mod (pe_callTy call_int1 (by rfl) T.n_int (by decide +kernel) (pa_cons (pe_op op_add (pe_op op_mul (pv 3) (pe_op op_add (pe_op op_mod (pe_callTy call_int1 (by rfl) T.n_int (by decide +kernel) (pa_cons (pv 3) pa_nil)) pe_int) pe_int)) (pe_op op_mul pe_int (pe_ix ix_list (pv 0) pe_int (fun _ _ => rfl)))) pa_nil)) pe_int) (pg_sub (pv 0) pe_int set_list))
        (pss_one (ps_ret (pe_op op_mod (pe_callTy call_int1 (by rfl) T.n_int (by decide +kernel) (pa_cons (pe_op op_fdiv (pe_ix ix_list (pv 0) pe_int (fun _ _ => rfl)) pe_int) pa_nil)) (pv 1)))))))), ?_⟩
    refine ⟨_, rfl, _, _, _, _, rfl, rfl, SqL.of h0, rfl, _, _, rfl, rfl, _, rfl, ?_⟩
    by_cases hx : (0 : Int) < x
    · rw [decide_eq_true hx]
      refine iteT ?_
      refine ⟨_, rfl, _, _, _, _, rfl, rfl, SqL.of h0, rfl, _, rfl, _, _, rfl, divp_small hm0 hm1, fun p hp => ?_⟩
      have na : a ≠ p := ne_of_none h0 hp
      have h1 : upd H p (.tup [.int (x / m), .int (x % m)]) a = some (.lst [.int x, .int y, .int z]) := by rw [upd_ne na]; exact h0
      refine ⟨_, _, rfl, SqT.of upd_same, rfl, _, _, rfl, ⟨_, rfl, _, _, _, _, rfl, rfl, h1, rfl, ?_⟩⟩
      refine ⟨_, _, rfl, ⟨rfl, ?_⟩⟩
      refine ⟨_, rfl, ?_⟩
      refine q _ _ (Int.emod_nonneg _ (by omega)) (Int.emod_lt_of_pos _ hm0) ⟨_, _, _, upd_same⟩ fun b o e nb => ?_
      rw [upd_ne nb, upd_ne (ne_of_none e hp)]
      exact e
    · rw [decide_eq_false hx]
      refine iteF ?_
      refine ⟨_, rfl, _, _, _, _, rfl, rfl, SqL.of h0, rfl, _, _, rfl, rfl, _, rfl, _, _, _, _, rfl, rfl, h0, rfl, ?_⟩
      have h1 : upd H a (.lst [.int x, .int y, .int (z + 1)]) a = some (.lst [.int x, .int y, .int (z + 1)]) := upd_same
      refine ⟨_, rfl, _, _, _, _, rfl, rfl, SqL.of h1, rfl, _, rfl, _, _, _, _, rfl, rfl, SqL.of h1, rfl, _, _, rfl, rfl, Or.inl (by constructor <;> omega), _, _, rfl, rfl, Or.inl ⟨_, rfl, _, _, rfl, rfl, (by show (0 : Int) < _; decide), ?_⟩⟩
      have s0 : (0 : Int) ≤ (y + 50021 * (z + 1)) % 2147483497 := Int.emod_nonneg _ (by decide)
      have s1 : (y + 50021 * (z + 1)) % 2147483497 < 2147483497 := Int.emod_lt_of_pos _ (by decide)
      refine ⟨_, rfl, _, rfl, Or.inl ⟨_, rfl, _, _, rfl, rfl, (by show (0 : Int) < _; decide), _, _, rfl, rfl, _, _, rfl, rfl, Or.inl (by constructor <;> omega), _, rfl, _, _, _, _, rfl, rfl, SqL.of h1, rfl, _, _, rfl, rfl, Or.inl (by constructor <;> omega), _, _, rfl, rfl, Or.inl ⟨_, rfl, _, _, rfl, rfl, (by show (0 : Int) < _; decide), _, rfl, _, _, _, _, rfl, rfl, h1, rfl, ?_⟩⟩⟩
      rw [upd_upd]
      refine ⟨_, rfl, _, _, _, _, rfl, rfl, SqL.of upd_same, rfl, _, _, rfl, rfl, (by constructor <;> omega), Or.inl ⟨_, rfl, _, rfl, _, _, rfl, rfl, hm0, ?_⟩⟩
      exact q _ _ (Int.emod_nonneg _ (by omega)) (Int.emod_lt_of_pos _ hm0) ⟨_, _, _, upd_same⟩ but_upd
theorem cut_map (ns : List Int) (lo hi : Option Int) : ∃ ms : List Int, cutV (ns.map V.int) lo hi = ms.map V.int ∧ ms.length ≤ ns.length := by
  refine ⟨(ns.drop (HT.sIx ns.length 0 lo)).take (HT.sIx ns.length ns.length hi - HT.sIx ns.length 0 lo), ?_, ?_⟩
  · unfold cutV
    rw [List.length_map, List.map_take, List.map_drop]
  · rw [List.length_take, List.length_drop]
    omega
/-- _law_reel: a new reel; nothing else has changed -/
def spReel (K : PySem.W.Frag) : Sp := fun vs H Q _ => ∃ (a : Addr) (ns : List Int) (t : Int), vs = [.ref a, .int t] ∧ SqL K H a (ns.map V.int) ∧ ns.length ≤ 63 ∧ 0 ≤ t ∧ t < 100 ∧
  ∀ (p : Addr) (H' : Hp), H p = none → RlAt p H' → Same H H' → Q (.ref p) H'
theorem sc_reel : FnScope ["script", "turn", "state", "cell", "own"] ["script", "turn"] (defScope s__law_reel) := ⟨rfl, rfl, rfl, by decide +kernel, rfl, by decide +kernel, by decide +kernel⟩
theorem d_reel (W : FunIn K mg "_law_reel" s__law_reel) (T : Bls mg) : Df P w K mg base "_law_reel" 1 ["script", "turn"] (spReel K) := by
  obtain ⟨f, fd, F, hm⟩ := W
  refine ⟨f, fd, F.ok sc_reel (fun vs H Q E h => ?_) (fun cdv A outer s H vs Q E hr h => ?_), hm, F.kp, F.binds fun _ _ _ _ _ _ us hl => match us, hl with | [_, _], _ => rfl⟩
  · obtain ⟨a, ns, t, rfl, _⟩ := h
    rfl
  · obtain ⟨a, ns, t, rfl, hS, hlen, t0, t1, q⟩ := h
    have nd := sc_reel.nd
    refine ⟨_, (pss_cons (ps_set (i := 2) nd rfl (Or.inl rfl) (pe_op op_add pe_int (pe_op op_mul pe_int (pv 1))))
        (pss_cons (ps_for PassesOwn.never rfl (pi_list (pe_slice sl_list (pv 0) po_none (po_some pe_int))) (pg_name (i := 3) nd rfl (Or.inl rfl)) (pss_one (ps_set (i := 2) nd rfl (Or.inl rfl) (pe_op op_mod (pe_callTy call_int1 (by rfl) T.n_int (by decide +kernel) (pa_cons (pe_op op_add (pe_op op_add (pe_op op_mul (pv 2) pe_int) (pe_op op_mod (pe_callTy call_int1 (by rfl) T.n_int (by decide +kernel) (pa_cons (pv 3) pa_nil)) pe_int)) pe_int) pa_nil)) pe_int))))
        (pss_cons (ps_set (i := 4) nd rfl (Or.inl rfl) (pe_ifExp (pt_cmpR op_lt (pv 1) (pe_callB call_len_seq (by rfl) T.n_len (by decide +kernel) (pa_cons (pv 0) pa_nil)) (nomark _)) (pe_callB call_abs (by rfl) T.n_abs (by decide +kernel) (pa_cons (pe_callTy call_int1 (by rfl) T.n_int (by decide +kernel) (pa_cons (pe_ix ix_list (pv 0) (pv 1) (fun _ _ => rfl)) pa_nil)) pa_nil)) pe_int))
        (pss_one (ps_ret (pe_lst (pa_cons (pe_ifExp (pt_cmpR op_ge (pv 4) (pe_op op_pow pe_int pe_int) (nomark _)) (pv 4) pe_int) (pa_cons (pe_op op_mod (pe_callTy call_int1 (by rfl) T.n_int (by decide +kernel) (pa_cons (pe_op op_add (pe_op op_mul (pv 2) pe_int) (pe_op op_mul (pe_op op_mod (pe_callTy call_int1 (by rfl) T.n_int (by decide +kernel) (pa_cons (pv 4) pa_nil)) pe_int) pe_int)) pa_nil)) pe_int) (pa_cons pe_int pa_nil))))))))), ?_⟩
    refine ⟨_, rfl, _, _, rfl, rfl, Or.inl (by constructor <;> omega), _, _, rfl, rfl, ?_⟩
    refine ⟨_, rfl, _, rfl, _, _, rfl, hS, fun c hc => ?_⟩
    obtain ⟨ms, em, lm⟩ := cut_map ns none (some 8)
    rw [em]
    have s0 : Same H (upd H c (.lst (ms.map V.int))) := same_new hc
    refine ⟨c, rfl, ⟨_, SqL.of upd_same⟩, for_list (K := K) (a := c) (xs := ms.map V.int) (fun i σ H2 => ∃ (x : Int) (v : Option V), σ = [some (.ref a), some (.int t), some (.int x), v, none] ∧ 0 ≤ x ∧ x < 2147483497 ∧ H2 = upd H c (.lst (ms.map V.int)))
      ⟨_, _, rfl, by omega, by omega, rfl⟩ (fun i σ H2 _ ⟨_, _, _, _, _, e⟩ => by rw [e]; exact SqL.of upd_same) ?_ ?_⟩
    · rintro i y σ H2 hi ⟨x, v, rfl, x0, x1, rfl⟩
      obtain ⟨n, _, rfl⟩ := List.mem_map.mp (List.mem_of_getElem? hi)
      refine ⟨_, rfl, _, _, rfl, rfl, Or.inl (by constructor <;> omega), _, rfl, Or.inl ⟨_, rfl, _, _, rfl, rfl, (by show (0 : Int) < _; decide), _, _, rfl, rfl, _, _, rfl, rfl, Or.inl ⟨_, rfl, _, _, rfl, rfl, (by show (0 : Int) < _; decide), ?_⟩⟩⟩
      exact ⟨_, _, rfl, Int.emod_nonneg _ (by decide), Int.emod_lt_of_pos _ (by decide), rfl⟩
    · rintro σ H2 ⟨x, v, rfl, x0, x1, rfl⟩
      have hS2 : SqL K (upd H c (.lst (ms.map V.int))) a (ns.map V.int) := s0.seq hS
      refine ⟨_, rfl, _, rfl, _, _, rfl, Or.inl hS2, _, _, rfl, rfl, _, rfl, ?_⟩
      rw [List.length_map]
      by_cases ht : t < (ns.length : Int)
      case' pos =>
        rw [decide_eq_true ht]
        refine iteT ?_
        have hn : t.toNat < ns.length := by omega
        refine ⟨_, rfl, _, rfl, _, _, _, _, rfl, rfl, hS2, at_of (j := t.toNat) (by omega) (by rw [List.getElem?_map, List.getElem?_eq_getElem hn]; rfl), Or.inl ⟨_, rfl, _, rfl, ?_⟩⟩
      case' neg =>
        rw [decide_eq_false ht]
        refine iteF ?_
      all_goals
        refine ⟨_, rfl, _, _, rfl, rfl, ⟨by decide, by decide, by decide⟩, _, _, rfl, rfl, _, rfl, ?_⟩
        refine ite2 (fun _ => ⟨_, rfl, ?_⟩) (fun _ => ?_)
        all_goals
          refine ⟨_, rfl, _, _, rfl, rfl, Or.inl (by constructor <;> omega), _, rfl, Or.inl ⟨_, rfl, _, _, rfl, rfl, (by show (0 : Int) < _; decide), _, _, rfl, rfl, Or.inr (by constructor <;> decide), _, _, rfl, rfl, Or.inl ⟨_, rfl, _, _, rfl, rfl, (by show (0 : Int) < _; decide), (by show 3 ≤ sizeLine; decide), fun p hp => ?_⟩⟩⟩
          exact q p _ (s0.free hp) ⟨_, _, _, upd_same⟩ (s0.trans (same_new hp))
theorem but_seq {a l : Addr} {H H' : Hp} {xs : List V} (e : But a H H') (n : l ≠ a) (h : SqL K H l xs) : SqL K H' l xs := by
  rcases h with (h | ⟨o, h⟩) | h
  · exact Or.inl (Or.inl (e _ _ h n))
  · exact Or.inl (Or.inr ⟨o, e _ _ h n⟩)
  · exact Or.inr h
/-- _law_one_of: some item of the list -/
def spOneOf (K : PySem.W.Frag) : Sp := fun vs H Q _ => ∃ (a l : Addr) (xs : List V), vs = [.ref a, .ref l] ∧ RlAt a H ∧ SqL K H l xs ∧ l ≠ a ∧ 0 < xs.length ∧ xs.length < 1000 ∧
  ∀ (v : V) (H' : Hp), v ∈ xs → RlAt a H' → But a H H' → Q v H'
end

section
variable {P : Program} {w : World} {K : PySem.W.Frag} {mg : Str → Option Value} {base : Heap}
/-- the law's own fraction in lowest terms -/
def spLow (K : PySem.W.Frag) : Sp := fun vs H Q _ => ∃ n m : Int, vs = [.int n, .int m] ∧ 0 < m ∧ Bz 8000 m ∧ ∀ v H', Same H H' → FrT K H' v (Rat.divInt n m) → Q v H'
theorem sc__law_lowest : FnScope ["n", "m", "a", "b"] ["n", "m"] (defScope s__law_lowest) := ⟨rfl, rfl, rfl, by decide +kernel, rfl, by decide +kernel, by decide +kernel⟩
theorem d__law_lowest (W : FunIn K mg "_law_lowest" s__law_lowest) (T : Blt mg) : Df P w K mg base "_law_lowest" 1 ["n", "m"] (spLow K) := by
  obtain ⟨f, fd, F, hm⟩ := W
  refine ⟨f, fd, F.ok sc__law_lowest (fun vs H Q E h => ?_) (fun cdv A outer s H vs Q E hr h => ?_), hm, F.kp, F.binds fun _ _ _ _ _ _ us hl => match us, hl with | [_, _], _ => rfl⟩
  · obtain ⟨n, m, rfl, _⟩ := h
    rfl
  · obtain ⟨n, m, rfl, hm0, hmz, q⟩ := h
    have nd := sc__law_lowest.nd
    obtain ⟨e1, e2⟩ := fr_pos_f (n := n) hm0
    have hg : ((n.natAbs.gcd m.natAbs : Nat) : Int) ≠ 0 := by
      have := Nat.gcd_pos_of_pos_right n.natAbs (show 0 < m.natAbs by omega)
      omega
    have hgz : Bz 8000 ((n.natAbs.gcd m.natAbs : Nat) : Int) := by
      unfold Bz
      rw [Int.natAbs_natCast]
      exact Nat.lt_of_le_of_lt (Nat.gcd_le_right _ (by omega)) hmz
    have fin : ∀ p, H p = none → Q (.ref p) (upd H p (.tup [.int (Rat.divInt n m).num, .int (Rat.divInt n m).den])) := fun p hp => q _ _ (same_new hp) ⟨p, rfl, SqT.of upd_same⟩
    have c1 : ∀ i : Int, CDivX i ((n.natAbs.gcd m.natAbs : Nat) : Int) := fun i => cdivx hg hgz (by decide)
    have c2 := c1 n
    have c3 := c1 m
    have hgt : m > 0 := hm0
    have ea : (if n < 0 then -n else n) = (n.natAbs : Int) := by split <;> omega
    have em : (if m < 0 then -m else m) = (m.natAbs : Int) := by split <;> omega
    refine ⟨_, (pss_cons (ps_par (i := 2) (j := 3) (by rfl) nd rfl rfl (by decide) rfl rfl (pa_cons (pe_callB call_abs (by rfl) T.n_abs (by decide +kernel) (pa_cons (pv 0) pa_nil)) (pa_cons (pe_callB call_abs (by rfl) T.n_abs (by decide +kernel) (pa_cons (pv 1) pa_nil)) pa_nil)) (by rfl))
        (pss_cons (ps_while PassesOwn.never (pt_cmpR op_ne (pv 3) pe_int (nomark _)) (pss_one (ps_par (i := 2) (j := 3) (by rfl) nd rfl rfl (by decide) rfl rfl (pa_cons (pv 3) (pa_cons (pe_op op_mod (pe_callTy call_int1 (by rfl) T.n_int (by decide +kernel) (pa_cons (pv 2) pa_nil)) (pv 3)) pa_nil)) (by rfl))))
        (pss_one (ps_ret (pe_ifExp (pt_cmpR op_gt (pv 1) pe_int (nomark _)) (pe_tup (pa_cons (pe_op op_fdivX (pv 0) (pv 2)) (pa_cons (pe_op op_fdivX (pv 1) (pv 2)) pa_nil))) (pe_tup (pa_cons (pe_op op_sub pe_int (pe_op op_fdivX (pv 0) (pv 2))) (pa_cons (pe_op op_sub pe_int (pe_op op_fdivX (pv 1) (pv 2))) pa_nil)))))))), ?_⟩
    walk_at "rd"
    refine ⟨fun k σ H' => ∃ a b : Nat, σ = [some (.int n), some (.int m), some (.int (a : Int)), some (.int (b : Int))] ∧ H' = H ∧ k = b ∧ a.gcd b = n.natAbs.gcd m.natAbs, ⟨m.natAbs, n.natAbs, m.natAbs, by rw [ea, em]; rfl, rfl, rfl, rfl⟩, ?_⟩
    rintro b σ H' ⟨a, b', rfl, rfl, rfl, hab⟩
    walk_at "rd"
    refine tifn (fun hb => ?_) (fun hb => ?_)
    · have hb1 : b ≠ 0 := fun z => hb (by rw [z]; rfl)
      have hb0 : 0 < (b : Int) := by omega
      refine ⟨fun σ' H'' => σ' = [some (.int n), some (.int m), some (.int (b : Int)), some (.int ((a % b : Nat) : Int))] ∧ H'' = H', ?_, ?_⟩
      · rintro σ' H'' ⟨rfl, rfl⟩
        refine ⟨a % b, Nat.mod_lt _ (by omega), b, a % b, rfl, rfl, rfl, ?_⟩
        rw [← hab, Nat.gcd_comm a b, Nat.gcd_rec b a, Nat.gcd_comm]
      · refine ⟨V.int (b : Int), rfl, V.int (a : Int), rfl, Or.inl ⟨_, rfl, V.int (b : Int), rfl, _, _, rfl, rfl, hb0, _, _, rfl, ?_⟩⟩
        rw [Int.natCast_emod]
        exact ⟨rfl, rfl⟩
    · have hb0 : b = 0 := by
        have := V.int.inj hb
        omega
      subst hb0
      rw [Nat.gcd_zero_right] at hab
      subst hab
      walk_at "rd"
      refine tif (fun _ => ?_) (fun z => absurd hgt z)
      walk_at "rd"
      rw [e1, e2]
      exact fin
theorem sc__law_plus : FnScope ["one", "two"] ["one", "two"] (defScope s__law_plus) := ⟨rfl, rfl, rfl, by decide +kernel, rfl, by decide +kernel, by decide +kernel⟩
theorem d__law_plus (W : FunIn K mg "_law_plus" s__law_plus) (D_law_lowest : Df P w K mg base "_law_lowest" 1 ["n", "m"] (spLow K)) : Df P w K mg base "_law_plus" 2 ["one", "two"] (spR2 K (fun p q => p + q)) := by
  obtain ⟨f, fd, F, hm⟩ := W
  refine ⟨f, fd, F.ok sc__law_plus (fun vs H Q E h => ?_) (fun cdv A outer s H vs Q E hr h => ?_), hm, F.kp, F.binds fun _ _ _ _ _ _ us hl => match us, hl with | [_, _], _ => rfl⟩
  · obtain ⟨x, y, p, q, rfl, _⟩ := h
    rfl
  · obtain ⟨x, y, p, r, rfl, ⟨a, rfl, ha⟩, ⟨b, rfl, hb⟩, zp, zr, q⟩ := h
    have nd := sc__law_plus.nd
    have b1 := zp.n
    have b2 := zp.dd
    have b3 := zr.n
    have b4 := zr.dd
    have hd : 0 < (p.den : Int) * (r.den : Int) := Int.mul_pos (by have := p.den_nz; omega) (by have := r.den_nz; omega)
    refine ⟨_, (pss_one (ps_ret (pe_d D_law_lowest (hr.mono (by decide)) rfl (pa_cons (pe_op op_add (pe_op op_mulX (pe_ix ix_tup (pv 0) pe_int (fun _ _ => rfl)) (pe_ix ix_tup (pv 1) pe_int (fun _ _ => rfl))) (pe_op op_mulX (pe_ix ix_tup (pv 1) pe_int (fun _ _ => rfl)) (pe_ix ix_tup (pv 0) pe_int (fun _ _ => rfl)))) (pa_cons (pe_op op_mulX (pe_ix ix_tup (pv 0) pe_int (fun _ _ => rfl)) (pe_ix ix_tup (pv 1) pe_int (fun _ _ => rfl))) pa_nil))))), ?_⟩
    walk_at "rd"
    rw [fr_add]
    exact q
theorem sc__law_times : FnScope ["one", "two"] ["one", "two"] (defScope s__law_times) := ⟨rfl, rfl, rfl, by decide +kernel, rfl, by decide +kernel, by decide +kernel⟩
theorem d__law_times (W : FunIn K mg "_law_times" s__law_times) (D_law_lowest : Df P w K mg base "_law_lowest" 1 ["n", "m"] (spLow K)) : Df P w K mg base "_law_times" 2 ["one", "two"] (spR2 K (fun p q => p * q)) := by
  obtain ⟨f, fd, F, hm⟩ := W
  refine ⟨f, fd, F.ok sc__law_times (fun vs H Q E h => ?_) (fun cdv A outer s H vs Q E hr h => ?_), hm, F.kp, F.binds fun _ _ _ _ _ _ us hl => match us, hl with | [_, _], _ => rfl⟩
  · obtain ⟨x, y, p, q, rfl, _⟩ := h
    rfl
  · obtain ⟨x, y, p, r, rfl, ⟨a, rfl, ha⟩, ⟨b, rfl, hb⟩, zp, zr, q⟩ := h
    have nd := sc__law_times.nd
    have b1 := zp.n
    have b2 := zp.dd
    have b3 := zr.n
    have b4 := zr.dd
    have hd : 0 < (p.den : Int) * (r.den : Int) := Int.mul_pos (by have := p.den_nz; omega) (by have := r.den_nz; omega)
    refine ⟨_, (pss_one (ps_ret (pe_d D_law_lowest (hr.mono (by decide)) rfl (pa_cons (pe_op op_mulX (pe_ix ix_tup (pv 0) pe_int (fun _ _ => rfl)) (pe_ix ix_tup (pv 1) pe_int (fun _ _ => rfl))) (pa_cons (pe_op op_mulX (pe_ix ix_tup (pv 0) pe_int (fun _ _ => rfl)) (pe_ix ix_tup (pv 1) pe_int (fun _ _ => rfl))) pa_nil))))), ?_⟩
    walk_at "rd"
    rw [fr_mul]
    exact q
/-- a drawn fraction -/
def spPart (K : PySem.W.Frag) : Sp := fun vs H Q _ => ∃ (a : Addr), vs = [.ref a] ∧ RlAt a H ∧ ∀ v q H', RlAt a H' → But a H H' → FrT K H' v q → Qz 4 q → Q v H'
def spSome (K : PySem.W.Frag) : Sp := fun vs H Q _ => ∃ (a : Addr), vs = [.ref a] ∧ RlAt a H ∧ ∀ v q H', RlAt a H' → But a H H' → FrT K H' v q → Qz 4 q → q ≠ 0 → Q v H'
theorem frt_int {K : PySem.W.Frag} {H : Hp} {p : Addr} (i : Int) (h : SqT K H p [.int i, .int 1]) : FrT K H (.ref p) (i : Rat) := ⟨p, rfl, by simpa using h⟩
theorem qz_int {i : Int} {b : Nat} (h : i.natAbs < 2 ^ b) (hb : 0 < b) : Qz b (i : Rat) := ⟨by simpa using h, by simpa using Nat.one_lt_two_pow (by omega)⟩
theorem sc__law_part : FnScope ["reel", "top"] ["reel"] (defScope s__law_part) := ⟨rfl, rfl, rfl, by decide +kernel, rfl, by decide +kernel, by decide +kernel⟩
theorem d__law_part (W : FunIn K mg "_law_part" s__law_part) (D_law_pull : Df P w K mg base "_law_pull" 1 ["reel", "many"] spPull) (D_law_lowest : Df P w K mg base "_law_lowest" 1 ["n", "m"] (spLow K)) : Df P w K mg base "_law_part" 2 ["reel"] (spPart K) := by
  obtain ⟨f, fd, F, hm⟩ := W
  refine ⟨f, fd, F.ok sc__law_part (fun vs H Q E h => ?_) (fun cdv A outer s H vs Q E hr h => ?_), hm, F.kp, F.binds fun _ _ _ _ _ _ us hl => match us, hl with | [_], _ => rfl⟩
  · obtain ⟨a, rfl, _⟩ := h
    rfl
  · obtain ⟨a, rfl, hR, q⟩ := h
    have nd := sc__law_part.nd
    refine ⟨_, (pss_cons (ps_if (pt_cmpR op_eq (pe_d D_law_pull (hr.mono (by decide)) rfl (pa_cons (pv 0) (pa_cons pe_int pa_nil))) pe_int (nomark _)) (pss_one (ps_ret (pe_tup (pa_cons (pe_op op_sub (pe_d D_law_pull (hr.mono (by decide)) rfl (pa_cons (pv 0) (pa_cons pe_int pa_nil))) pe_int) (pa_cons pe_int pa_nil))))) pss_nil)
        (pss_cons (ps_set (i := 1) nd rfl (Or.inl rfl) (pe_op op_sub (pe_d D_law_pull (hr.mono (by decide)) rfl (pa_cons (pv 0) (pa_cons pe_int pa_nil))) pe_int))
        (pss_one (ps_ret (pe_d D_law_lowest (hr.mono (by decide)) rfl (pa_cons (pv 1) (pa_cons (pe_op op_add pe_int (pe_d D_law_pull (hr.mono (by decide)) rfl (pa_cons (pv 0) (pa_cons pe_int pa_nil)))) pa_nil))))))), ?_⟩
    walk_at "rd"
    intro d H1 d0 d1 hR1 hB1
    walk_at "rd"
    refine tif (fun _ => ?_) (fun _ => ?_)
    · walk_at "rd"
      intro d H2 d0 d1 hR2 hB2
      walk_at "rd"
      intro p hp
      have s3 := same_new (o := .tup [.int (d - 4), .int 1]) hp
      have na : a ≠ p := by
        obtain ⟨_, _, _, e⟩ := hR2
        exact ne_of_none e hp
      refine q _ ((d - 4 : Int) : Rat) _ ?_ (but_trans (but_trans hB1 hB2) (same_but a s3)) (frt_int _ (SqT.of upd_same)) (qz_int (by omega) (by decide))
      obtain ⟨x, y, z, e⟩ := hR2
      exact ⟨x, y, z, s3 _ _ e⟩
    · walk_at "rd"
      intro d2 H2 d20 d21 hR2 hB2
      walk_at "rd"
      intro d3 H3 d30 d31 hR3 hB3
      have h0 : 0 < 1 + d3 := by omega
      have hz : Bz 8000 (1 + d3) := Bz.mono (b := 4) (by unfold Bz; omega) (by decide)
      walk_at "rd"
      intro v H4 s4 hv
      refine q v _ H4 ?_ (but_trans (but_trans (but_trans hB1 hB2) hB3) (same_but a s4)) hv (Qz.of_div (by unfold Bz; omega) (by unfold Bz; omega) (by omega))
      obtain ⟨x, y, z, e⟩ := hR3
      exact ⟨x, y, z, s4 _ _ e⟩
theorem sc__law_some : FnScope ["reel", "found"] ["reel"] (defScope s__law_some) := ⟨rfl, rfl, rfl, by decide +kernel, rfl, by decide +kernel, by decide +kernel⟩
theorem d__law_some (W : FunIn K mg "_law_some" s__law_some) (D_law_part : Df P w K mg base "_law_part" 2 ["reel"] (spPart K)) : Df P w K mg base "_law_some" 3 ["reel"] (spSome K) := by
  obtain ⟨f, fd, F, hm⟩ := W
  refine ⟨f, fd, F.ok sc__law_some (fun vs H Q E h => ?_) (fun cdv A outer s H vs Q E hr h => ?_), hm, F.kp, F.binds fun _ _ _ _ _ _ us hl => match us, hl with | [_], _ => rfl⟩
  · obtain ⟨a, rfl, _⟩ := h
    rfl
  · obtain ⟨a, rfl, hR, q⟩ := h
    have nd := sc__law_some.nd
    refine ⟨_, (pss_cons (ps_set (i := 1) nd rfl (Or.inl rfl) (pe_d D_law_part (hr.mono (by decide)) rfl (pa_cons (pv 0) pa_nil)))
        (pss_one (ps_ret (pe_ifExp (pt_cmpR op_ne (pe_ix ix_tup (pv 1) pe_int (fun _ _ => rfl)) pe_int (nomark _)) (pv 1) (pe_tup (pa_cons pe_int (pa_cons pe_int pa_nil))))))), ?_⟩
    walk_at "rd"
    intro v r H1 hR1 hB1 hv hz
    obtain ⟨b, rfl, hb⟩ := hv
    walk_at "rd"
    refine tifn (fun h0 => ?_) (fun h0 => ?_)
    · walk_at "rd"
      refine q _ r H1 hR1 hB1 ⟨b, rfl, hb⟩ hz fun z => h0 ?_
      rw [z]
      rfl
    · walk_at "rd"
      intro p hp
      have s3 := same_new (o := .tup [.int 1, .int 1]) hp
      refine q _ 1 _ ?_ (but_trans hB1 (same_but a s3)) (frt_int 1 (SqT.of upd_same)) (qz1 (by decide)) (by decide)
      obtain ⟨x, y, z, e⟩ := hR1
      exact ⟨x, y, z, s3 _ _ e⟩
end

end Vx
namespace Vx
open PySem PySem.Spec PyProof.Rows L2
local macro_rules | `(tactic| walk_at "cl") => `(tactic| first | rfl | assumption | omega | exact sz_of 0 rfl (by decide) | exact sz_of 1 rfl (by decide) | exact sz_of 2 rfl (by decide) | exact sz_of 3 rfl (by decide) | exact cmulx (by assumption) (by assumption) (by decide) | exact Bz.mono (Bz.mul (by assumption) (by assumption)) (by decide) | decide)
local macro_rules | `(tactic| walk_at "ex") => `(tactic| ((show Exists _); first | apply @Exists.intro V | apply @Exists.intro Int | apply @Exists.intro Addr | apply @Exists.intro (List V) | apply @Exists.intro Nat | apply @Exists.intro Str | apply @Exists.intro Bool | apply @Exists.intro (Option V) | apply @Exists.intro String | apply @Exists.intro Rat | apply @Exists.intro (List Rat)))
local macro_rules | `(tactic| walk_at "rd") => `(tactic| ((repeat (first | (walk_at "ex") | (apply And.intro; (focus (walk_at "cl"))))); (try dsimp only [])))
local macro_rules | `(tactic| walk_at "r0") => `(tactic| (repeat (first | (walk_at "ex") | (apply And.intro; (focus (walk_at "cl"))))))

section
variable {P : Program} {w : World} {K : PySem.W.Frag} {mg : Str → Option Value} {base : Heap}
/-- a list or a tuple of fractions -/
def SqF (tup : Bool) (K : PySem.W.Frag) (H : Hp) (a : Addr) (us : List V) : Prop := if tup = true then SqT K H a us else SqL K H a us
/-- the row of these numbers -/
def spTrimL (K : PySem.W.Frag) : Sp := fun vs H Q _ => ∃ (l : Addr) (us : List V) (qs : List Rat), vs = [.ref l] ∧ SqL K H l us ∧ FrA K H us qs ∧ us.length < 1000 ∧
  ∀ v H' m, Same H H' → Tr (qs.take m) → (∀ c ∈ qs.drop m, c = 0) → RwT K H' v (qs.take m) → Q v H'
def spTrimT (K : PySem.W.Frag) : Sp := fun vs H Q _ => ∃ (l : Addr) (us : List V) (qs : List Rat), vs = [.ref l] ∧ SqT K H l us ∧ FrA K H us qs ∧ us.length < 1000 ∧
  ∀ v H' m, Same H H' → Tr (qs.take m) → (∀ c ∈ qs.drop m, c = 0) → RwT K H' v (qs.take m) → Q v H'
theorem sc__law_trim : FnScope ["numbers", "many", "turn"] ["numbers"] (defScope s__law_trim) := ⟨rfl, rfl, rfl, by decide +kernel, rfl, by decide +kernel, by decide +kernel⟩
theorem d__law_trimL (W : FunIn K mg "_law_trim" s__law_trim) (T : Blt mg) : Df P w K mg base "_law_trim" 1 ["numbers"] (spTrimL K) := by
  obtain ⟨f, fd, F, hm⟩ := W
  refine ⟨f, fd, F.ok sc__law_trim (fun vs H Q E h => ?_) (fun cdv A outer s H vs Q E hr h => ?_), hm, F.kp, F.binds fun _ _ _ _ _ _ us hl => match us, hl with | [_], _ => rfl⟩
  · obtain ⟨l, us, qs, rfl, _⟩ := h
    rfl
  · obtain ⟨l, us, qs, rfl, hl, hA, hlen, q⟩ := h
    have nd := sc__law_trim.nd
    have hL := hA.length
    have hl' : SqL K H l us ∨ SqT K H l us := Or.inl hl
    refine ⟨_, (pss_cons (ps_set (i := 1) nd rfl (Or.inl rfl) (pe_callB call_len_seq (by rfl) T.n_len (by decide +kernel) (pa_cons (pv 0) pa_nil)))
        (pss_cons (ps_for PassesOwn.never rfl (pi_range1 rfl T.n_range (pa_cons (pe_callB call_len_seq (by rfl) T.n_len (by decide +kernel) (pa_cons (pv 0) pa_nil)) pa_nil)) (pg_name (i := 2) nd rfl (Or.inl rfl) (Or.inr rfl)) (pss_cons (ps_if (pt_cmpR op_ne (pe_ix ix_tup (pe_ix ix_list (pv 0) (pe_op op_sub (pv 1) pe_int) (fun _ _ => rfl)) pe_int (fun _ _ => rfl)) pe_int (nomark _)) (pss_one ps_break) pss_nil)
        (pss_one (ps_set (i := 1) nd rfl (Or.inl rfl) (pe_op op_sub (pv 1) pe_int)))))
        (pss_one (ps_ret (pe_callTy call_tuple_of (by rfl) T.n_tuple (by decide +kernel) (pa_cons (pe_slice sl_list (pv 0) po_none (po_some (pv 1))) pa_nil)))))), ?_⟩
    walk_at "r0"
    refine for_range (n := us.length) (fun i σ H' => ∃ (o : Option V), σ = [some (.ref l), some (.int ((us.length - i : Nat) : Int)), o] ∧ H' = H ∧ ∀ c ∈ qs.drop (us.length - i), c = 0) ⟨none, rfl, rfl, fun c hc => by rw [Nat.sub_zero, hL, List.drop_length] at hc; cases hc⟩ ?_ ?_
    · rintro i σ H' hi ⟨o, rfl, rfl, hz⟩
      obtain ⟨u, hu⟩ : ∃ u, us[us.length - i - 1]? = some u := ⟨_, List.getElem?_eq_getElem (by omega)⟩
      obtain ⟨r, hr1, ⟨b, rfl, hb⟩⟩ := hA.get hu
      have hat : atI us (((us.length - i : Nat) : Int) - 1) = some (.ref b) := at_of (j := us.length - i - 1) (by omega) hu
      have hr2 : qs[us.length - i - 1]'(by omega) = r := by
        rw [List.getElem?_eq_getElem (by omega)] at hr1
        exact Option.some.inj hr1
      walk_at "rd"
      refine tifn (fun hne => ?_) (fun he => ?_)
      · have hr0 : r ≠ 0 := fun z => hne (by rw [z]; rfl)
        walk_at "rd"
        rw [cutV_take (by omega)]
        intro p hp
        have s1 := same_new (o := .lst (us.take (us.length - i))) hp
        have e1 : upd H' p (.lst (us.take (us.length - i))) p = some (.lst (us.take (us.length - i))) := upd_same
        generalize upd H' p (.lst (us.take (us.length - i))) = H1 at s1 e1
        refine ⟨_, _, rfl, Or.inl ⟨SqL.of e1, fun t ht' => ?_⟩⟩
        exact q _ _ (us.length - i) (s1.trans (same_new ht')) (tr_take_of (by omega) (by omega) (by rw [hr2]; exact hr0)) hz ⟨t, us.take (us.length - i), rfl, SqT.of upd_same, fra_mono (same_t (s1.trans (same_new ht'))) (hA.take (us.length - i))⟩
      · have hr0 : r = 0 := by
          have := V.int.inj he
          exact Rat.num_eq_zero.mp this
        walk_at "rd"
        refine ⟨?_, rfl, fun c hc => ?_⟩
        · have e1 : ((us.length - i : Nat) : Int) - 1 = ((us.length - (i + 1) : Nat) : Int) := by omega
          rw [e1]
          rfl
        · have e1 : us.length - (i + 1) = us.length - i - 1 := by omega
          have e2 : us.length - i - 1 + 1 = us.length - i := by omega
          rw [e1, List.drop_eq_getElem_cons (by omega), hr2, e2] at hc
          rcases List.mem_cons.mp hc with z | z
          · rw [z, hr0]
          · exact hz c z
    · rintro σ H' ⟨o, rfl, rfl, hz⟩
      walk_at "rd"
      rw [cutV_take (by omega)]
      intro p hp
      have s1 := same_new (o := .lst (us.take (us.length - us.length))) hp
      have e1 : upd H' p (.lst (us.take (us.length - us.length))) p = some (.lst (us.take (us.length - us.length))) := upd_same
      generalize upd H' p (.lst (us.take (us.length - us.length))) = H1 at s1 e1
      refine ⟨_, _, rfl, Or.inl ⟨SqL.of e1, fun t ht' => ?_⟩⟩
      exact q _ _ (us.length - us.length) (s1.trans (same_new ht')) (by rw [Nat.sub_self]; exact tr_nil) hz ⟨t, us.take (us.length - us.length), rfl, SqT.of upd_same, fra_mono (same_t (s1.trans (same_new ht'))) (hA.take (us.length - us.length))⟩
theorem d__law_trimT (W : FunIn K mg "_law_trim" s__law_trim) (T : Blt mg) : Df P w K mg base "_law_trim" 1 ["numbers"] (spTrimT K) := by
  obtain ⟨f, fd, F, hm⟩ := W
  refine ⟨f, fd, F.ok sc__law_trim (fun vs H Q E h => ?_) (fun cdv A outer s H vs Q E hr h => ?_), hm, F.kp, F.binds fun _ _ _ _ _ _ us hl => match us, hl with | [_], _ => rfl⟩
  · obtain ⟨l, us, qs, rfl, _⟩ := h
    rfl
  · obtain ⟨l, us, qs, rfl, hl, hA, hlen, q⟩ := h
    have nd := sc__law_trim.nd
    have hL := hA.length
    have hl' : SqL K H l us ∨ SqT K H l us := Or.inr hl
    refine ⟨_, (pss_cons (ps_set (i := 1) nd rfl (Or.inl rfl) (pe_callB call_len_seq (by rfl) T.n_len (by decide +kernel) (pa_cons (pv 0) pa_nil)))
        (pss_cons (ps_for PassesOwn.never rfl (pi_range1 rfl T.n_range (pa_cons (pe_callB call_len_seq (by rfl) T.n_len (by decide +kernel) (pa_cons (pv 0) pa_nil)) pa_nil)) (pg_name (i := 2) nd rfl (Or.inl rfl) (Or.inr rfl)) (pss_cons (ps_if (pt_cmpR op_ne (pe_ix ix_tup (pe_ix ix_tup (pv 0) (pe_op op_sub (pv 1) pe_int) (fun _ _ => rfl)) pe_int (fun _ _ => rfl)) pe_int (nomark _)) (pss_one ps_break) pss_nil)
        (pss_one (ps_set (i := 1) nd rfl (Or.inl rfl) (pe_op op_sub (pv 1) pe_int)))))
        (pss_one (ps_ret (pe_callTy call_tuple_of (by rfl) T.n_tuple (by decide +kernel) (pa_cons (pe_slice sl_tupA (pv 0) po_none (po_some (pv 1))) pa_nil)))))), ?_⟩
    walk_at "r0"
    refine for_range (n := us.length) (fun i σ H' => ∃ (o : Option V), σ = [some (.ref l), some (.int ((us.length - i : Nat) : Int)), o] ∧ H' = H ∧ ∀ c ∈ qs.drop (us.length - i), c = 0) ⟨none, rfl, rfl, fun c hc => by rw [Nat.sub_zero, hL, List.drop_length] at hc; cases hc⟩ ?_ ?_
    · rintro i σ H' hi ⟨o, rfl, rfl, hz⟩
      obtain ⟨u, hu⟩ : ∃ u, us[us.length - i - 1]? = some u := ⟨_, List.getElem?_eq_getElem (by omega)⟩
      obtain ⟨r, hr1, ⟨b, rfl, hb⟩⟩ := hA.get hu
      have hat : atI us (((us.length - i : Nat) : Int) - 1) = some (.ref b) := at_of (j := us.length - i - 1) (by omega) hu
      have hr2 : qs[us.length - i - 1]'(by omega) = r := by
        rw [List.getElem?_eq_getElem (by omega)] at hr1
        exact Option.some.inj hr1
      walk_at "rd"
      refine tifn (fun hne => ?_) (fun he => ?_)
      · have hr0 : r ≠ 0 := fun z => hne (by rw [z]; rfl)
        walk_at "rd"
        refine ⟨fun hw => ?_, fun hw p hp => ?_⟩
        · have em : us.length = us.length - i := by
            have h2 := hw.2
            rw [HT.sIx_nat, Nat.min_eq_left (by omega)] at h2
            exact h2.symm
          have et : us.take (us.length - i) = us := List.take_of_length_le (by omega)
          refine ⟨_, _, rfl, Or.inr ⟨hl, q _ _ (us.length - i) (Same.refl _) (tr_take_of (by omega) (by omega) (by rw [hr2]; exact hr0)) hz ⟨l, us.take (us.length - i), rfl, by rw [et]; exact hl, hA.take (us.length - i)⟩⟩⟩
        · rw [cutV_take (by omega)]
          refine ⟨_, _, rfl, Or.inr ⟨SqT.of upd_same, q _ _ (us.length - i) (same_new hp) (tr_take_of (by omega) (by omega) (by rw [hr2]; exact hr0)) hz ⟨p, us.take (us.length - i), rfl, SqT.of upd_same, fra_mono (same_t (same_new hp)) (hA.take (us.length - i))⟩⟩⟩
      · have hr0 : r = 0 := by
          have := V.int.inj he
          exact Rat.num_eq_zero.mp this
        walk_at "rd"
        refine ⟨?_, rfl, fun c hc => ?_⟩
        · have e1 : ((us.length - i : Nat) : Int) - 1 = ((us.length - (i + 1) : Nat) : Int) := by omega
          rw [e1]
          rfl
        · have e1 : us.length - (i + 1) = us.length - i - 1 := by omega
          have e2 : us.length - i - 1 + 1 = us.length - i := by omega
          rw [e1, List.drop_eq_getElem_cons (by omega), hr2, e2] at hc
          rcases List.mem_cons.mp hc with z | z
          · rw [z, hr0]
          · exact hz c z
    · rintro σ H' ⟨o, rfl, rfl, hz⟩
      walk_at "rd"
      refine ⟨fun hw => ?_, fun hw p hp => ?_⟩
      · have em : us.length = us.length - us.length := by
          have h2 := hw.2
          rw [HT.sIx_nat, Nat.min_eq_left (by omega)] at h2
          exact h2.symm
        have et : us.take (us.length - us.length) = us := List.take_of_length_le (by omega)
        refine ⟨_, _, rfl, Or.inr ⟨hl, q _ _ (us.length - us.length) (Same.refl _) (by rw [Nat.sub_self]; exact tr_nil) hz ⟨l, us.take (us.length - us.length), rfl, by rw [et]; exact hl, hA.take (us.length - us.length)⟩⟩⟩
      · rw [cutV_take (by omega)]
        refine ⟨_, _, rfl, Or.inr ⟨SqT.of upd_same, q _ _ (us.length - us.length) (same_new hp) (by rw [Nat.sub_self]; exact tr_nil) hz ⟨p, us.take (us.length - us.length), rfl, SqT.of upd_same, fra_mono (same_t (same_new hp)) (hA.take (us.length - us.length))⟩⟩⟩
end
section
variable {P : Program} {w : World} {K : PySem.W.Frag} {mg : Str → Option Value} {base : Heap}
/-- _law_at -/
def spAt (K : PySem.W.Frag) : Sp := fun vs H Q _ => ∃ (x : V) (qs : List Rat) (k : Nat), vs = [x, .int (k : Int)] ∧ RwT K H x qs ∧ ∀ v H', Same H H' → FrT K H' v (qs.getD k 0) → Q v H'
theorem sc__law_at : FnScope ["row", "k"] ["row", "k"] (defScope s__law_at) := ⟨rfl, rfl, rfl, by decide +kernel, rfl, by decide +kernel, by decide +kernel⟩
theorem d__law_at (W : FunIn K mg "_law_at" s__law_at) (T : Blt mg) : Df P w K mg base "_law_at" 1 ["row", "k"] (spAt K) := by
  obtain ⟨f, fd, F, hm⟩ := W
  refine ⟨f, fd, F.ok sc__law_at (fun vs H Q E h => ?_) (fun cdv A outer s H vs Q E hr h => ?_), hm, F.kp, F.binds fun _ _ _ _ _ _ us hl => match us, hl with | [_, _], _ => rfl⟩
  · obtain ⟨x, qs, k, rfl, _⟩ := h
    rfl
  · obtain ⟨x, qs, k, rfl, ⟨a, us, rfl, ha, hA⟩, q⟩ := h
    have nd := sc__law_at.nd
    have hL := hA.length
    have ha' : SqL K H a us ∨ SqT K H a us := Or.inr ha
    refine ⟨_, (pss_one (ps_ret (pe_ifExp (pt_chain op_le op_lt pe_int (pv 1) (pe_callB call_len_seq (by rfl) T.n_len (by decide +kernel) (pa_cons (pv 0) pa_nil))) (pe_ix ix_tup (pv 0) (pv 1) (fun _ _ => rfl)) (pe_tup (pa_cons pe_int (pa_cons pe_int pa_nil)))))), ?_⟩
    walk_at "rd"
    refine tif (fun hk => ?_) (fun hk => ?_)
    · have hk' : k < us.length := by omega
      obtain ⟨r, hr, hfr⟩ := hA.get (List.getElem?_eq_getElem hk')
      have hat : atI us (k : Int) = some us[k] := at_of (j := k) rfl (List.getElem?_eq_getElem hk')
      walk_at "rd"
      refine q _ H (Same.refl _) ?_
      rw [getD_some hr]
      exact hfr
    · walk_at "rd"
      intro p hp
      refine q _ _ (same_new hp) ?_
      rw [List.getD_eq_getElem?_getD, List.getElem?_eq_none (by omega)]
      exact ⟨p, rfl, SqT.of upd_same⟩
theorem ev_getD_add (ps qs : List Rat) (M : Nat) (h1 : ps.length ≤ M) (h2 : qs.length ≤ M) (x : Rat) : ev ((List.range M).map fun i => ps.getD i 0 + qs.getD i 0) x = ev ps x + ev qs x := by
  have l1 : (ps ++ List.replicate (M - ps.length) (0 : Rat)).length = M := by rw [List.length_append, List.length_replicate]; omega
  have l2 : (qs ++ List.replicate (M - qs.length) (0 : Rat)).length = M := by rw [List.length_append, List.length_replicate]; omega
  have := ev_zip_add _ _ (l1.trans l2.symm) x
  rw [l1, ev_pad, ev_pad] at this
  rw [← this]
  congr 1
  refine List.map_congr_left fun i _ => ?_
  rw [getD_pad, getD_pad]
theorem sc__law_sum : FnScope ["one", "two", "k"] ["one", "two"] (defScope s__law_sum) := ⟨rfl, rfl, rfl, by decide +kernel, rfl, by decide +kernel, by decide +kernel⟩
theorem d__law_sum (W : FunIn K mg "_law_sum" s__law_sum) (T : Blt mg) (D_law_trim : Df P w K mg base "_law_trim" 1 ["numbers"] (spTrimL K)) (D_law_plus : Df P w K mg base "_law_plus" 2 ["one", "two"] (spR2 K (fun p q => p + q))) (D_law_at : Df P w K mg base "_law_at" 1 ["row", "k"] (spAt K)) : Df P w K mg base "_law_sum" 3 ["one", "two"] (spRows K (fun p q => p + q)) := by
  obtain ⟨f, fd, F, hm⟩ := W
  refine ⟨f, fd, F.ok sc__law_sum (fun vs H Q E h => ?_) (fun cdv A outer s H vs Q E hr h => ?_), hm, F.kp, F.binds fun _ _ _ _ _ _ us hl => match us, hl with | [_, _], _ => rfl⟩
  · obtain ⟨x, y, ps, qs, b, rfl, _⟩ := h
    rfl
  · obtain ⟨x, y, ps, qs, b, rfl, ⟨a1, us, rfl, ha, hA⟩, ⟨a2, vs, rfl, hb, hB⟩, zp, zq, hb0, hb1, lp, lq, q⟩ := h
    have nd := sc__law_sum.nd
    have hL1 := hA.length
    have hL2 := hB.length
    have ha' : SqL K H a1 us ∨ SqT K H a1 us := Or.inr ha
    have hb' : SqL K H a2 vs ∨ SqT K H a2 vs := Or.inr hb
    obtain ⟨M, hM⟩ : ∃ M, max ps.length qs.length = M := ⟨_, rfl⟩
    have hmax : (if (vs.length : Int) > (us.length : Int) then (vs.length : Int) else (us.length : Int)) = (M : Int) := by
      split <;> omega
    refine ⟨_, (pss_one (ps_ret (pe_d D_law_trim (hr.mono (by decide)) rfl (pa_cons (pe_lc (own := [("k", 2)]) rfl nd (pi_range1 rfl T.n_range (pa_cons (pe_callB (call_max2 rfl) (by rfl) T.n_max (by decide +kernel) (pa_cons (pe_callB call_len_seq (by rfl) T.n_len (by decide +kernel) (pa_cons (pv 0) pa_nil)) (pa_cons (pe_callB call_len_seq (by rfl) T.n_len (by decide +kernel) (pa_cons (pv 1) pa_nil)) pa_nil))) pa_nil)) (blkOk_by (own := [("k", 2)]) (N := ["one", "two", "k"]) (sc := defScope s__law_sum) (by decide +kernel)) (fun _ _ _ _ _ => (pg_name (i := 2) nd rfl (Or.inl rfl) (Or.inr rfl))) (fun _ _ _ _ _ => pts_nil) (fun _ _ _ _ _ => (pe_d D_law_plus (hr.mono (by decide)) rfl (pa_cons (pe_d D_law_at (hr.mono (by decide)) rfl (pa_cons (pv 0) (pa_cons (pv 2) pa_nil))) (pa_cons (pe_d D_law_at (hr.mono (by decide)) rfl (pa_cons (pv 1) (pa_cons (pv 2) pa_nil))) pa_nil))))) pa_nil)))), ?_⟩
    refine ⟨_, rfl, a1, us, rfl, ha', _, rfl, a2, vs, rfl, hb', _, _, rfl, ?_⟩
    rw [hmax]
    refine ⟨(M : Int), rfl, by omega, by omega, fun D hD => lc_map (walk_range (lo := 0) (n := M)) hD (by rw [sizeLine_eq]; omega) (fun i H' v => FrT K H' v (ps.getD i 0 + qs.getD i 0)) (fun i H' H'' v e h => h.mono e) (fun _ _ => trivial) ?_ ?_⟩
    · rintro i u H1 H2 hi s1 _ ⟨rfl, rfl⟩ Fin hF
      have r1 : RwT K H2 (.ref a1) ps := RwT.mono (same_t s1) ⟨a1, us, rfl, ha, hA⟩
      have r2 : RwT K H2 (.ref a2) qs := RwT.mono (same_t s1) ⟨a2, vs, rfl, hb, hB⟩
      have ei : (0 : Int) + (i : Int) = (i : Int) := by omega
      dsimp only []
      rw [ei]
      refine ⟨rfl, _, rfl, _, rfl, _, ps, i, rfl, r1, fun v1 H3 s3 hv1 => ?_⟩
      refine ⟨_, rfl, _, rfl, _, qs, i, rfl, r2.mono (same_t s3), fun v2 H4 s4 hv2 => ?_⟩
      refine ⟨v1, v2, _, _, rfl, hv1.mono (same_t s4), hv2, (qs_getD zp hb0 i).mono hb1, (qs_getD zq hb0 i).mono hb1, fun v H5 s5 hv => ?_⟩
      exact hF _ _ ((s3.trans s4).trans s5) hv
    · intro H1 acc s1 hacc hlen1 hel
      have hA3 : FrA K H1 acc ((List.range M).map fun i => ps.getD i 0 + qs.getD i 0) := al_of_get hlen1 hel
      refine ⟨D, acc, _, rfl, SqL.of hacc, hA3, by omega, fun v H' k s4 ht hz hv => ?_⟩
      refine q v _ H' (s1.trans s4) hv ht (fun z => ?_) (fun c hc => ?_) ?_
      · rw [ev_take_drop _ _ hz, ev_getD_add ps qs M (by omega) (by omega)]
      · obtain ⟨i, hi, rfl⟩ := List.mem_map.mp (List.mem_of_mem_take hc)
        exact Qz.add (qs_getD zp hb0 i) (qs_getD zq hb0 i)
      · rw [List.length_take, List.length_map, List.length_range]
        omega
/-- a row times a fraction -/
def spScale (K : PySem.W.Frag) : Sp := fun vs H Q _ => ∃ (x y : V) (ps : List Rat) (c : Rat) (b e : Nat), vs = [x, y] ∧ RwT K H x ps ∧ FrT K H y c ∧ Qs b ps ∧ Qz e c ∧ b ≤ 3900 ∧ e ≤ 3900 ∧ ps.length < 900 ∧
  ∀ v r H', Same H H' → RwT K H' v r → Tr r → (∀ z, ev r z = c * ev ps z) → Qs (b + e) r → r.length ≤ ps.length → Q v H'
def spLess (K : PySem.W.Frag) : Sp := fun vs H Q _ => ∃ (x y : V) (ps qs : List Rat) (b : Nat), vs = [x, y] ∧ RwT K H x ps ∧ RwT K H y qs ∧ Qs b ps ∧ Qs b qs ∧ 0 < b ∧ b ≤ 3000 ∧ ps.length < 900 ∧ qs.length < 900 ∧
  ∀ v r H', Same H H' → RwT K H' v r → Tr r → (∀ z, ev r z = ev ps z - ev qs z) → Qs (b + b + 3) r → r.length ≤ max ps.length qs.length → Q v H'
theorem qz_m1 : Qz 1 (-1) := ⟨by decide, by decide⟩
theorem frt_m1 {K : PySem.W.Frag} {H : Hp} {p : Addr} (h : SqT K H p [.int (-1), .int 1]) : FrT K H (.ref p) (-1) := ⟨p, rfl, h⟩
end

end Vx
namespace Vx
open PySem PySem.Spec PyProof.Rows L2
local macro_rules | `(tactic| walk_at "cl") => `(tactic| first | rfl | assumption | omega | exact sz_of 0 rfl (by decide) | exact sz_of 1 rfl (by decide) | exact sz_of 2 rfl (by decide) | exact sz_of 3 rfl (by decide) | exact cmulx (by assumption) (by assumption) (by decide) | exact Bz.mono (Bz.mul (by assumption) (by assumption)) (by decide) | decide)
local macro_rules | `(tactic| walk_at "ex") => `(tactic| ((show Exists _); first | apply @Exists.intro V | apply @Exists.intro Int | apply @Exists.intro Addr | apply @Exists.intro (List V) | apply @Exists.intro Nat | apply @Exists.intro Str | apply @Exists.intro Bool | apply @Exists.intro (Option V) | apply @Exists.intro String | apply @Exists.intro Rat | apply @Exists.intro (List Rat)))
local macro_rules | `(tactic| walk_at "rd") => `(tactic| ((repeat (first | (walk_at "ex") | (apply And.intro; (focus (walk_at "cl"))))); (try dsimp only [])))
local macro_rules | `(tactic| walk_at "r0") => `(tactic| (repeat (first | (walk_at "ex") | (apply And.intro; (focus (walk_at "cl"))))))

section
variable {P : Program} {w : World} {K : PySem.W.Frag} {mg : Str → Option Value} {base : Heap}
/-- the law's own product -/
def bProd (l b1 b2 : Nat) : Nat := l * (b1 + b2 + 1) + 1
def spProd (K : PySem.W.Frag) : Sp := fun vs H Q _ => ∃ (x y : V) (ps qs : List Rat) (b1 b2 : Nat), vs = [x, y] ∧ RwT K H x ps ∧ RwT K H y qs ∧ Qs b1 ps ∧ Qs b2 qs ∧ ps.length < 400 ∧ qs.length < 400 ∧ bProd ps.length b1 b2 + b1 + b2 ≤ 3900 ∧
  ∀ v r H', Same H H' → RwT K H' v r → Tr r → (∀ z, ev r z = ev ps z * ev qs z) → Qs (bProd ps.length b1 b2) r → r.length ≤ ps.length + qs.length → Q v H'
theorem sc__law_product : FnScope ["one", "two", "found", "j", "k"] ["one", "two"] (defScope s__law_product) := ⟨rfl, rfl, rfl, by decide +kernel, rfl, by decide +kernel, by decide +kernel⟩
theorem d__law_product (W : FunIn K mg "_law_product" s__law_product) (T : Blt mg) (D_law_trim : Df P w K mg base "_law_trim" 1 ["numbers"] (spTrimL K)) (D_law_plus : Df P w K mg base "_law_plus" 2 ["one", "two"] (spR2 K (fun p q => p + q))) (D_law_times : Df P w K mg base "_law_times" 2 ["one", "two"] (spR2 K (fun p q => p * q))) : Df P w K mg base "_law_product" 3 ["one", "two"] (spProd K) := by
  obtain ⟨f, fd, F, hm⟩ := W
  refine ⟨f, fd, F.ok sc__law_product (fun vs H Q E h => ?_) (fun cdv A outer s H vs Q E hr h => ?_), hm, F.kp, F.binds fun _ _ _ _ _ _ us hl => match us, hl with | [_, _], _ => rfl⟩
  · obtain ⟨x, y, ps, qs, b1, b2, rfl, _⟩ := h
    rfl
  · obtain ⟨x, y, ps, qs, b1, b2, rfl, ⟨a1, us, rfl, ha, hA⟩, ⟨a2, vs, rfl, hb, hB⟩, zp, zq, lp, lq, hbd, q⟩ := h
    have nd := sc__law_product.nd
    unfold bProd at hbd
    have hL1 := hA.length
    have hL2 := hB.length
    refine ⟨_, (pss_cons (ps_set (i := 2) nd rfl (Or.inl rfl) (pe_op op_rep (pe_lst (pa_cons (pe_tup (pa_cons pe_int (pa_cons pe_int pa_nil))) pa_nil)) (pe_op op_add (pe_callB call_len_seq (by rfl) T.n_len (by decide +kernel) (pa_cons (pv 0) pa_nil)) (pe_callB call_len_seq (by rfl) T.n_len (by decide +kernel) (pa_cons (pv 1) pa_nil)))))
        (pss_cons (ps_for PassesOwn.never rfl (pi_range1 rfl T.n_range (pa_cons (pe_callB call_len_seq (by rfl) T.n_len (by decide +kernel) (pa_cons (pv 0) pa_nil)) pa_nil)) (pg_name (i := 3) nd rfl (Or.inl rfl) (Or.inr rfl)) (pss_one (ps_for PassesOwn.never rfl (pi_range1 rfl T.n_range (pa_cons (pe_callB call_len_seq (by rfl) T.n_len (by decide +kernel) (pa_cons (pv 1) pa_nil)) pa_nil)) (pg_name (i := 4) nd rfl (Or.inl rfl) (Or.inr rfl)) (pss_one (ps_asg (pe_d D_law_plus (hr.mono (by decide)) rfl (pa_cons (pe_ix ix_list (pv 2) (pe_op op_add (pv 3) (pv 4)) (fun _ _ => rfl)) (pa_cons (pe_d D_law_times (hr.mono (by decide)) rfl (pa_cons (pe_ix ix_tup (pv 0) (pv 3) (fun _ _ => rfl)) (pa_cons (pe_ix ix_tup (pv 1) (pv 4) (fun _ _ => rfl)) pa_nil))) pa_nil))) (pg_sub (pv 2) (pe_op op_add (pv 3) (pv 4)) set_list))))))
        (pss_one (ps_ret (pe_d D_law_trim (hr.mono (by decide)) rfl (pa_cons (pv 2) pa_nil)))))), ?_⟩
    walk_at "r0"
    intro p0 hp0
    have s0 := same_new (o := .tup [V.int 0, V.int 1]) hp0
    have e0 : SqT K (upd H p0 (.tup [V.int 0, V.int 1])) p0 [V.int 0, V.int 1] := SqT.of upd_same
    generalize upd H p0 (.tup [V.int 0, V.int 1]) = H0 at s0 e0
    have f0 : FrT K H0 (.ref p0) 0 := ⟨p0, rfl, e0⟩
    walk_at "r0"
    intro p1 hp1
    have s1 := same_new (o := .lst [V.ref p0]) hp1
    have e1 : upd H0 p1 (.lst [V.ref p0]) p1 = some (.lst [V.ref p0]) := upd_same
    generalize upd H0 p1 (.lst [V.ref p0]) = H1 at s1 e1
    have s01 := s0.trans s1
    have ha1 : SqL K H1 a1 us ∨ SqT K H1 a1 us := Or.inr (same_seqT s01 ha)
    have hb1 : SqL K H1 a2 vs ∨ SqT K H1 a2 vs := Or.inr (same_seqT s01 hb)
    have hlr : (us.length : Int) + (vs.length : Int) = ((ps.length + qs.length : Nat) : Int) := by omega
    have hsz : [V.ref p0].length * ((us.length : Int) + (vs.length : Int)).toNat ≤ sizeLine := by
      show 1 * _ ≤ _
      rw [hlr, Int.toNat_natCast, sizeLine_eq]
      omega
    walk_at "r0"
    rw [hlr]
    intro p hp
    have ef : (List.replicate ((ps.length + qs.length : Nat) : Int).toNat [V.ref p0]).flatten = List.replicate (ps.length + qs.length) (V.ref p0) := by
      rw [Int.toNat_natCast]
      generalize ps.length + qs.length = k
      induction k with
      | zero => rfl
      | succ k ih => rw [List.replicate_succ, List.flatten_cons, ih, List.replicate_succ]; rfl
    rw [ef]
    have hpH : H p = none := s01.free hp
    have s2 : Same H (upd H1 p (.lst (List.replicate (ps.length + qs.length) (V.ref p0)))) := s01.trans (same_new hp)
    have e2 : upd H1 p (.lst (List.replicate (ps.length + qs.length) (V.ref p0))) p = some (.lst (List.replicate (ps.length + qs.length) (V.ref p0))) := upd_same
    have f2 : FrT K (upd H1 p (.lst (List.replicate (ps.length + qs.length) (V.ref p0)))) (.ref p0) 0 := f0.mono (same_t (s1.trans (same_new hp)))
    generalize upd H1 p (.lst (List.replicate (ps.length + qs.length) (V.ref p0))) = H2 at s2 e2 f2
    have g2 : FrA K H2 (List.replicate (ps.length + qs.length) (V.ref p0)) (List.replicate (ps.length + qs.length) 0) := by
      generalize ps.length + qs.length = k
      induction k with
      | zero => exact .nil
      | succ k ih => exact .cons f2 ih
    have ha2 : SqL K H2 a1 us ∨ SqT K H2 a1 us := Or.inr (same_seqT s2 ha)
    refine ⟨V.ref a1, rfl, a1, us, rfl, ha2, (us.length : Int), rfl, by omega, by omega, for_range (n := us.length) (fun i σ H' => ∃ (acc : List V) (rs : List Rat) (o3 o4 : Option V), σ = [some (.ref a1), some (.ref a2), some (.ref p), o3, o4] ∧ Same H H' ∧ H' p = some (.lst acc) ∧ FrA K H' acc rs ∧ rs.length = ps.length + qs.length ∧ (∀ x, ev rs x = ev (ps.take i) x * ev qs x) ∧ Qs (i * (b1 + b2 + 1) + 1) rs)
      ⟨_, _, none, none, rfl, s2, e2, g2, List.length_replicate, fun x => ?_, fun r hr => ?_⟩ ?_ ?_⟩
    · rw [ev_replicate0, List.take_zero]
      show (0 : Rat) = 0 * _
      grind
    · rw [(List.mem_replicate.mp hr).2]
      exact qz0 (by omega)
    · rintro i σ H3 hi ⟨acc, rs, o3, o4, rfl, s3, e3, g3, lr, hev, hq⟩
      have hi' : i < ps.length := by omega
      have le1 : i * (b1 + b2 + 1) + (b1 + b2 + 1) ≤ ps.length * (b1 + b2 + 1) := by
        have := Nat.mul_le_mul_right (b1 + b2 + 1) (show i + 1 ≤ ps.length by omega)
        rw [Nat.add_mul, Nat.one_mul] at this
        exact this
      obtain ⟨r1, hr1, hfr1⟩ := hA.get (List.getElem?_eq_getElem hi)
      have hat1 : atI us (0 + (i : Int)) = some us[i] := at_of (j := i) (by omega) (List.getElem?_eq_getElem hi)
      have z1 : Qz b1 r1 := zp r1 (List.mem_of_getElem? hr1)
      have hb3 : SqL K H3 a2 vs ∨ SqT K H3 a2 vs := Or.inr (same_seqT s3 hb)
      refine ⟨V.ref a2, rfl, a2, vs, rfl, hb3, (vs.length : Int), rfl, by omega, by omega, for_range (n := vs.length) (fun j σ H' => ∃ (acc : List V) (rs : List Rat) (o4 : Option V), σ = [some (.ref a1), some (.ref a2), some (.ref p), some (.int (0 + (i : Int))), o4] ∧ Same H H' ∧ H' p = some (.lst acc) ∧ FrA K H' acc rs ∧ rs.length = ps.length + qs.length ∧ (∀ x, ev rs x = ev (ps.take i) x * ev qs x + r1 * x ^ i * ev (qs.take j) x) ∧ ∀ k r, rs[k]? = some r → Qz ((if k < i + j then i + 1 else i) * (b1 + b2 + 1) + 1) r)
        ⟨acc, rs, o4, rfl, s3, e3, g3, lr, fun x => ?_, fun k r hr => ?_⟩ ?_ ?_⟩
      · rw [hev, List.take_zero]
        show _ = _ + _ * 0
        grind
      · refine (hq r (List.mem_of_getElem? hr)).mono (Nat.add_le_add_right (Nat.mul_le_mul_right _ ?_) 1)
        split <;> omega
      · rintro j σ H4 hj ⟨acc, rs, o4, rfl, s4, e4, g4, lr, hev, hq⟩
        obtain ⟨r2, hr2, hfr2⟩ := hB.get (List.getElem?_eq_getElem hj)
        have hat2 : atI vs (0 + (j : Int)) = some vs[j] := at_of (j := j) (by omega) (List.getElem?_eq_getElem hj)
        have z2 : Qz b2 r2 := zq r2 (List.mem_of_getElem? hr2)
        have lA := g4.length
        have hk : i + j < rs.length := by omega
        have hk2 : i + j < acc.length := by omega
        obtain ⟨r3, hr3, hfr3⟩ := g4.get (List.getElem?_eq_getElem hk2)
        have hr3' : rs[i + j] = r3 := by
          rw [List.getElem?_eq_getElem hk] at hr3
          exact Option.some.inj hr3
        have eij : (0 + (i : Int)) + (0 + (j : Int)) = ((i + j : Nat) : Int) := by omega
        have hat3 : atI acc ((0 + (i : Int)) + (0 + (j : Int))) = some acc[i + j] := at_of (j := i + j) (by omega) (List.getElem?_eq_getElem hk2)
        have z3 := hq (i + j) r3 hr3
        rw [if_neg (by omega)] at z3
        have z1' : Qz 3900 r1 := z1.mono (by omega)
        have z2' : Qz 3900 r2 := z2.mono (by omega)
        have z3' : Qz 3900 r3 := z3.mono (by omega)
        have z12 : Qz 3900 (r1 * r2) := (Qz.mul z1 z2).mono (by omega)
        have q4 : SqL K H4 p acc := SqL.of e4
        have t1 := same_seqT s4 ha
        have t2 := same_seqT s4 hb
        have fr1 := hfr1.mono (same_t s4)
        have fr2 := hfr2.mono (same_t s4)
        refine ⟨_, rfl, V.int (0 + (i : Int)), rfl, V.int (0 + (j : Int)), rfl, _, _, rfl, rfl, p, acc, _, _, rfl, rfl, q4, hat3, ?_⟩
        refine ⟨_, rfl, V.int (0 + (i : Int)), rfl, a1, us, _, _, rfl, rfl, t1, hat1, _, rfl, V.int (0 + (j : Int)), rfl, a2, vs, _, _, rfl, rfl, t2, hat2, _, _, _, _, rfl, fr1, fr2, z1', z2', fun v5 H5 s5 hv5 => ?_⟩
        refine ⟨_, _, _, _, rfl, hfr3.mono (same_t s5), hv5, z3', z12, fun v6 H6 s6 hv6 => ?_⟩
        have s56 := s5.trans s6
        have e6 := s56 _ _ e4
        refine ⟨V.ref p, rfl, V.int (0 + (i : Int)), rfl, V.int (0 + (j : Int)), rfl, _, _, rfl, rfl, p, acc, _, i + j, rfl, rfl, e6, by rw [eij]; exact ixN_nat hk2, ?_⟩
        have g6 : FrA K (upd H6 p (.lst (acc.set (i + j) v6))) (acc.set (i + j) v6) (rs.set (i + j) (rs[i + j] + r1 * r2)) := by
          refine Al.set (fra_mono ((same_t s56).trans (samet_lst e6)) g4) _ ?_
          rw [hr3']
          exact hv6.mono (samet_lst e6)
        refine ⟨_, _, _, rfl, fun c o e => ?_, upd_same, g6, by rw [List.length_set]; exact lr, fun x => ?_, fun k r hr' => ?_⟩
        · rw [upd_ne (ne_of_none e hpH)]
          exact s56 _ _ (s4 _ _ e)
        · rw [ev_set hk, hev, rw_take_succ hr2, rpow_add]
          grind
        · rw [List.getElem?_set] at hr'
          split at hr'
          · rename_i hkk
            subst hkk
            cases hr'
            rw [if_pos (by omega), hr3']
            refine (Qz.add z3 (Qz.mul z1 z2)).mono ?_
            rw [Nat.add_mul, Nat.one_mul]
            omega
          · refine (hq k r hr').mono (Nat.add_le_add_right (Nat.mul_le_mul_right _ ?_) 1)
            split <;> split <;> omega
      · rintro σ H4 ⟨acc, rs, o4, rfl, s4, e4, g4, lr, hev, hq⟩
        refine ⟨acc, rs, _, _, rfl, s4, e4, g4, lr, fun x => ?_, fun r hr => ?_⟩
        · rw [hev, rw_take_succ hr1, hL2, List.take_length]
          grind
        · obtain ⟨k, hk⟩ := List.mem_iff_getElem?.mp hr
          refine (hq k r hk).mono (Nat.add_le_add_right (Nat.mul_le_mul_right _ ?_) 1)
          split <;> omega
    · rintro σ H3 ⟨acc, rs, o3, o4, rfl, s3, e3, g3, lr, hev, hq⟩
      rw [hL1, List.take_length] at hev
      rw [hL1] at hq
      have lA := g3.length
      refine ⟨V.ref p, rfl, p, acc, rs, rfl, SqL.of e3, g3, by omega, fun v H' k s4 ht hz hv => ?_⟩
      refine q v _ H' (s3.trans s4) hv ht (fun z => ?_) (hq.take k) ?_
      · rw [ev_take_drop _ _ hz, hev]
      · rw [List.length_take]
        omega
end
section
variable {P : Program} {w : World} {K : PySem.W.Frag} {mg : Str → Option Value} {base : Heap}
/-- a drawn row -/
def spDrawn (K : PySem.W.Frag) : Sp := fun vs H Q _ => ∃ (a : Addr) (m : Nat), vs = [.ref a, .int (m : Int)] ∧ RlAt a H ∧ m < 100 ∧ ∀ v r H', RlAt a H' → But a H H' → RwT K H' v r → Tr r → Qs 4 r → r.length ≤ m → Q v H'
theorem tr_snoc {qs : List Rat} {q : Rat} (h : q ≠ 0) : Tr (qs ++ [q]) := fun hn => by
  rw [List.getLast_append_right (List.cons_ne_nil _ _)]
  exact h
theorem sc__law_drawn : FnScope ["reel", "most", "many", "found", "k"] ["reel", "most"] (defScope s__law_drawn) := ⟨rfl, rfl, rfl, by decide +kernel, rfl, by decide +kernel, by decide +kernel⟩
theorem d__law_drawn (W : FunIn K mg "_law_drawn" s__law_drawn) (T : Blt mg) (D_law_pull : Df P w K mg base "_law_pull" 1 ["reel", "many"] spPull) (D_law_part : Df P w K mg base "_law_part" 2 ["reel"] (spPart K)) (D_law_some : Df P w K mg base "_law_some" 3 ["reel"] (spSome K)) : Df P w K mg base "_law_drawn" 4 ["reel", "most"] (spDrawn K) := by
  obtain ⟨f, fd, F, hm⟩ := W
  refine ⟨f, fd, F.ok sc__law_drawn (fun vs H Q E h => ?_) (fun cdv A outer s H vs Q E hr h => ?_), hm, F.kp, F.binds fun _ _ _ _ _ _ us hl => match us, hl with | [_, _], _ => rfl⟩
  · obtain ⟨a, m, rfl, _⟩ := h
    rfl
  · obtain ⟨a, m, rfl, hR, hm, q⟩ := h
    have nd := sc__law_drawn.nd
    refine ⟨_, (pss_cons (ps_par (i := 2) (j := 3) (by rfl) nd rfl rfl (by decide) rfl rfl (pa_cons (pe_d D_law_pull (hr.mono (by decide)) rfl (pa_cons (pv 0) (pa_cons (pe_op op_add (pv 1) pe_int) pa_nil))) (pa_cons (pe_lst pa_nil) pa_nil)) (by rfl))
        (pss_cons (ps_for PassesOwn.never rfl (pi_range1 rfl T.n_range (pa_cons (pv 2) pa_nil)) (pg_name (i := 4) nd rfl (Or.inl rfl) (Or.inr rfl)) (pss_one (ps_expr (pe_bm PySem.F.plainAttrs_list PySem.F.slot_list_append PySem.F.type_list_append mt_append (pv 3) (pa_cons (pe_ifExp (pt_cmpR op_lt (pv 4) (pe_op op_sub (pv 2) pe_int) (nomark _)) (pe_d D_law_part (hr.mono (by decide)) rfl (pa_cons (pv 0) pa_nil)) (pe_d D_law_some (hr.mono (by decide)) rfl (pa_cons (pv 0) pa_nil))) pa_nil)))))
        (pss_one (ps_ret (pe_callTy call_tuple_of (by rfl) T.n_tuple (by decide +kernel) (pa_cons (pv 3) pa_nil)))))), ?_⟩
    refine ⟨V.ref a, rfl, V.int (m : Int), rfl, _, _, rfl, rfl, a, _, rfl, hR, by omega, by omega, fun n H1 n0 n1 hR1 hB1 => ?_⟩
    refine ⟨by show 0 ≤ sizeLine; exact Nat.zero_le _, fun p hp => ?_⟩
    have pa : a ≠ p := by
      obtain ⟨_, _, _, e⟩ := hR1
      exact ne_of_none e hp
    have hpH : H p = none := by
      cases e : H p with
      | none => rfl
      | some o => rw [hB1 p o e (Ne.symm pa)] at hp; cases hp
    have hR2 : RlAt a (upd H1 p (.lst [])) := same_rl hR1 (same_new hp)
    have hB2 : But a H (upd H1 p (.lst [])) := but_trans hB1 (same_but a (same_new hp))
    have e2 : upd H1 p (.lst []) p = some (.lst []) := upd_same
    generalize upd H1 p (.lst []) = H2 at hR2 hB2 e2
    refine ⟨_, _, rfl, V.int n, rfl, n, rfl, by omega, by omega, for_range (n := n.toNat) (fun i σ H' => ∃ (acc : List V) (qs : List Rat) (o : Option V), σ = [some (.ref a), some (.int (m : Int)), some (.int n), some (.ref p), o] ∧ RlAt a H' ∧ But a H H' ∧ H' p = some (.lst acc) ∧ FrA K H' acc qs ∧ qs.length = i ∧ Qs 4 qs ∧ (i = n.toNat → Tr qs))
      ⟨[], [], none, rfl, hR2, hB2, e2, .nil, rfl, fun c hc => (by cases hc), fun _ => tr_nil⟩ ?_ ?_⟩
    · rintro i σ H3 hi ⟨acc, qs, o, rfl, hR3, hB3, e3, g3, lq, zq, ht⟩
      have lA := g3.length
      have fin : ∀ v r H4, RlAt a H4 → But a H3 H4 → FrT K H4 v r → Qz 4 r → (i + 1 = n.toNat → r ≠ 0) → ∃ l xs y, V.ref p = V.ref l ∧ [v] = [y] ∧ H4 l = some (.lst xs) ∧ xs.length < sizeLine ∧ (∃ (acc : List V) (qs : List Rat) (o : Option V), [some (.ref a), some (.int (m : Int)), some (.int n), some (.ref p), some (V.int (0 + (i : Int)))] = [some (.ref a), some (.int (m : Int)), some (.int n), some (.ref p), o] ∧ RlAt a (upd H4 l (.lst (xs ++ [y]))) ∧ But a H (upd H4 l (.lst (xs ++ [y]))) ∧ (upd H4 l (.lst (xs ++ [y]))) p = some (.lst acc) ∧ FrA K (upd H4 l (.lst (xs ++ [y]))) acc qs ∧ qs.length = i + 1 ∧ Qs 4 qs ∧ (i + 1 = n.toNat → Tr qs)) := by
        intro v r H4 hR4 hB4 hv hz hne
        have e4 : H4 p = some (.lst acc) := hB4 _ _ e3 (Ne.symm pa)
        have st := but_samet hR3 hB4
        refine ⟨p, acc, v, rfl, rfl, e4, by rw [sizeLine_eq]; omega, acc ++ [v], qs ++ [r], _, rfl, ?_, fun c o e nc => ?_, upd_same, ?_, by rw [List.length_append, lq]; rfl, ?_, fun hn => tr_snoc (hne hn)⟩
        · obtain ⟨x, y, z, e⟩ := hR4
          exact ⟨x, y, z, by rw [upd_ne pa]; exact e⟩
        · rw [upd_ne (ne_of_none e hpH)]
          exact hB4 _ _ (hB3 _ _ e nc) nc
        · exact (fra_mono (st.trans (samet_lst e4)) g3).append (.cons (hv.mono (samet_lst e4)) .nil)
        · intro c hc
          rcases List.mem_append.mp hc with z | z
          · exact zq c z
          · rw [List.mem_singleton.mp z]
            exact hz
      walk_at "r0"
      refine ⟨Or.inl ⟨rfl, _, SqL.of e3⟩, ?_⟩
      walk_at "r0"
      refine tif (fun hk => ?_) (fun hk => ?_)
      · exact ⟨V.ref a, rfl, a, rfl, hR3, fun v r H4 hR4 hB4 hv hz => fin v r H4 hR4 hB4 hv hz (fun hn => by omega)⟩
      · exact ⟨V.ref a, rfl, a, rfl, hR3, fun v r H4 hR4 hB4 hv hz hne => fin v r H4 hR4 hB4 hv hz (fun _ => hne)⟩
    · rintro σ H3 ⟨acc, qs, o, rfl, hR3, hB3, e3, g3, lq, zq, ht⟩
      refine ⟨V.ref p, rfl, p, acc, rfl, Or.inl ⟨SqL.of e3, fun t htf => ?_⟩⟩
      have s4 := same_new (o := .tup acc) htf
      exact q _ qs _ (same_rl hR3 s4) (but_trans hB3 (same_but a s4)) ⟨t, acc, rfl, SqT.of upd_same, fra_mono (same_t s4) g3⟩ (ht rfl) zq (by omega)
/-- the law's own worth -/
def bOwn (l b c : Nat) : Nat := l * (b + l * c + 3) + 1
def spOwn (K : PySem.W.Frag) : Sp := fun vs H Q _ => ∃ (x y : V) (qs : List Rat) (z : Rat) (b c : Nat), vs = [x, y] ∧ RwT K H x qs ∧ FrT K H y z ∧ Qs b qs ∧ Qz c z ∧ qs.length < 400 ∧ bOwn qs.length b c + b + qs.length * c + c + 1 ≤ 3900 ∧
  ∀ v H', Same H H' → FrT K H' v (ev qs z) → Qz (bOwn qs.length b c) (ev qs z) → Q v H'
end

end Vx
namespace Vx
open PySem PySem.Spec PyProof.Rows L2
local macro_rules | `(tactic| walk_at "cl") => `(tactic| first | rfl | assumption | omega | exact sz_of 0 rfl (by decide) | exact sz_of 1 rfl (by decide) | exact sz_of 2 rfl (by decide) | exact sz_of 3 rfl (by decide) | exact cmulx (by assumption) (by assumption) (by decide) | exact Bz.mono (Bz.mul (by assumption) (by assumption)) (by decide) | decide)
local macro_rules | `(tactic| walk_at "ex") => `(tactic| ((show Exists _); first | apply @Exists.intro V | apply @Exists.intro Int | apply @Exists.intro Addr | apply @Exists.intro (List V) | apply @Exists.intro Nat | apply @Exists.intro Str | apply @Exists.intro Bool | apply @Exists.intro (Option V) | apply @Exists.intro String | apply @Exists.intro Rat | apply @Exists.intro (List Rat)))
local macro_rules | `(tactic| walk_at "rd") => `(tactic| ((repeat (first | (walk_at "ex") | (apply And.intro; (focus (walk_at "cl"))))); (try dsimp only [])))
local macro_rules | `(tactic| walk_at "r0") => `(tactic| (repeat (first | (walk_at "ex") | (apply And.intro; (focus (walk_at "cl"))))))

section
variable {P : Program} {w : World} {K : PySem.W.Frag} {mg : Str → Option Value} {base : Heap}
/-- three rows -/
def spThree (K : PySem.W.Frag) : Sp := fun vs H Q _ => ∃ (a : Addr), vs = [.ref a] ∧ RlAt a H ∧ ∀ t v1 v2 v3 r1 r2 r3 H', RlAt a H' → But a H H' → SqT K H' t [v1, v2, v3] → RwT K H' v1 r1 → RwT K H' v2 r2 → RwT K H' v3 r3 →
  Tr r1 → Tr r2 → Tr r3 → Qs 4 r1 → Qs 10 r2 → Qs 4 r3 → r1.length ≤ 5 → r2.length ≤ 5 → r3.length ≤ 4 → Q (.ref t) H'
end
theorem bTimes_le {l1 b1 l2 b2 n1 n2 B : Nat} (h1 : l1 ≤ n1) (h2 : l2 ≤ n2) (h : bTimes n1 b1 n2 b2 ≤ B) : bTimes l1 b1 l2 b2 ≤ B := by
  refine Nat.le_trans ?_ h
  unfold bTimes
  have a := fold_le (a := b1) (show l1 + 1 ≤ n1 + 1 by omega)
  have b := fold_le (a := b2) (show l2 + 1 ≤ n2 + 1 by omega)
  omega
theorem bWorth_le {l b c n B : Nat} (h1 : l ≤ n) (h : bWorth n b c ≤ B) : bWorth l b c ≤ B := by
  refine Nat.le_trans ?_ h
  unfold bWorth
  have a := fold_le (a := b + c + 1) h1
  omega
theorem bWorth_le2 {l b c n B : Nat} (h1 : l ≤ n) (h : bWorth n b c + b + c ≤ B) : bWorth l b c + b + c ≤ B := by
  have := bWorth_le (b := b) (c := c) h1 (Nat.le_refl _)
  omega
theorem bProd_le {l b1 b2 n B : Nat} (h1 : l ≤ n) (h : bProd n b1 b2 ≤ B) : bProd l b1 b2 ≤ B := by
  refine Nat.le_trans ?_ h
  unfold bProd
  have a := fold_le (a := b1 + b2 + 1) h1
  omega
theorem bProd_le2 {l b1 b2 n B : Nat} (h1 : l ≤ n) (h : bProd n b1 b2 + b1 + b2 ≤ B) : bProd l b1 b2 + b1 + b2 ≤ B := by
  have := bProd_le (b1 := b1) (b2 := b2) h1 (Nat.le_refl _)
  omega
theorem bOwn_le {l b c n B : Nat} (h1 : l ≤ n) (h : bOwn n b c ≤ B) : bOwn l b c ≤ B := by
  refine Nat.le_trans ?_ h
  unfold bOwn
  have a : l * c ≤ n * c := fold_le h1
  have b' : l * (b + l * c + 3) ≤ n * (b + n * c + 3) := Nat.mul_le_mul h1 (by omega)
  omega
theorem bOwn_le2 {l b c n B : Nat} (h1 : l ≤ n) (h : bOwn n b c + b + n * c + c + 1 ≤ B) : bOwn l b c + b + l * c + c + 1 ≤ B := by
  have := bOwn_le (b := b) (c := c) h1 (Nat.le_refl _)
  have a : l * c ≤ n * c := fold_le h1
  omega

end Vx
namespace Vx
open PySem PySem.Spec PyProof.Rows L2
section
variable {X : Cx}
theorem call_isiTup : CallR X (.builtin "isinstance") (fun vs H Q => ∃ a xs, vs = [.ref a, .ty "tuple"] ∧ SqT X.K H a xs ∧ Q (.bl true) H) := by
  intro pins s σ H xs us Q I r h
  obtain ⟨a, ys, rfl, hq, q⟩ := h
  refine call_isi pins s σ H _ us Q I r ⟨_, _, .type "tuple", _, true, rfl, .ty "tuple", ?_, by rfl, q⟩
  rcases hq with h | ⟨o, its, n, h, c, _⟩
  · rcases h with h | ⟨o, h⟩
    · exact .base (.tup h)
    · exact .fTuple h
  · exact .kTuple h c
theorem call_isiInt : CallR X (.builtin "isinstance") (fun vs H Q => ∃ i, vs = [.int i, .ty "int"] ∧ Q (.bl true) H) := by
  intro pins s σ H xs us Q I r h
  obtain ⟨i, rfl, q⟩ := h
  exact call_isi pins s σ H _ us Q I r ⟨_, _, .type "int", _, true, rfl, .ty "int", .base (.int i), by rfl, q⟩
theorem call_isiBool : CallR X (.builtin "isinstance") (fun vs H Q => ∃ i, vs = [.int i, .ty "bool"] ∧ Q (.bl false) H) := by
  intro pins s σ H xs us Q I r h
  obtain ⟨i, rfl, q⟩ := h
  exact call_isi pins s σ H _ us Q I r ⟨_, _, .type "int", _, false, rfl, .ty "bool", .base (.int i), by rfl, q⟩
end
end Vx
namespace Vx
open PySem PySem.Spec PyProof.Rows L2
local macro_rules | `(tactic| walk_at "cl") => `(tactic| first | rfl | assumption | omega | exact sz_of 0 rfl (by decide) | exact sz_of 1 rfl (by decide) | exact sz_of 2 rfl (by decide) | exact sz_of 3 rfl (by decide) | exact cmulx (by assumption) (by assumption) (by decide) | exact Bz.mono (Bz.mul (by assumption) (by assumption)) (by decide) | decide)
local macro_rules | `(tactic| walk_at "ex") => `(tactic| ((show Exists _); first | apply @Exists.intro V | apply @Exists.intro Int | apply @Exists.intro Addr | apply @Exists.intro (List V) | apply @Exists.intro Nat | apply @Exists.intro Str | apply @Exists.intro Bool | apply @Exists.intro (Option V) | apply @Exists.intro String | apply @Exists.intro Rat | apply @Exists.intro (List Rat)))
local macro_rules | `(tactic| walk_at "rd") => `(tactic| ((repeat (first | (walk_at "ex") | (apply And.intro; (focus (walk_at "cl"))))); (try dsimp only [])))
local macro_rules | `(tactic| walk_at "r0") => `(tactic| (repeat (first | (walk_at "ex") | (apply And.intro; (focus (walk_at "cl"))))))
theorem toR_concat (l : List Int) (c : Int) (x : Rat) : ev (toR (l ++ [c])) x = ev (toR l) x + (c : Rat) * x ^ l.length := by
  unfold toR
  rw [List.map_append, ev_append, List.length_map]
  show _ + x ^ l.length * ((c : Rat) + x * 0) = _
  grind
theorem toR_smul (g : Int) (l : List Int) (x : Rat) : ev (toR (l.map (g * ·))) x = (g : Rat) * ev (toR l) x := by
  have e : toR (l.map (g * ·)) = (toR l).map ((g : Rat) * ·) := by
    unfold toR
    rw [List.map_map, List.map_map]
    refine List.map_congr_left fun n _ => ?_
    show ((g * n : Int) : Rat) = (g : Rat) * (n : Rat)
    push_cast
    rfl
  rw [e, ev_scale]
theorem split_id {S N Q E top P R0 last g t A : Rat} (h : S * N = Q * (E + top * P) + (R0 + last * (A * P))) (hg : g * last = t * top) :
    S * g * N = (g * Q + t * A) * (E + top * P) + (g * R0 - t * A * E) := by
  have e : S * g * N = g * (S * N) := by grind
  rw [e, h]
  have e2 : g * (last * (A * P)) = t * top * (A * P) := by rw [← hg]; grind
  grind
theorem gcd_parts (last : Int) {top : Int} (h : top ≠ 0) : ∃ g t G : Int, ((last.natAbs.gcd top.natAbs : Nat) : Int) = G ∧ 0 < G ∧ top.fdiv G = g ∧ last.fdiv G = t ∧ top = g * G ∧ last = t * G ∧ g ≠ 0 ∧ G.natAbs ≤ top.natAbs ∧ g.natAbs ≤ top.natAbs ∧ t.natAbs ≤ last.natAbs := by
  have hp : 0 < last.natAbs.gcd top.natAbs := Nat.gcd_pos_of_pos_right _ (by omega)
  have d1 : ((last.natAbs.gcd top.natAbs : Nat) : Int) ∣ top := by
    exact Int.ofNat_dvd_left.mpr (Nat.gcd_dvd_right _ _)
  have d2 : ((last.natAbs.gcd top.natAbs : Nat) : Int) ∣ last := by
    exact Int.ofNat_dvd_left.mpr (Nat.gcd_dvd_left _ _)
  have le : last.natAbs.gcd top.natAbs ≤ top.natAbs := Nat.gcd_le_right _ (by omega)
  generalize last.natAbs.gcd top.natAbs = n at *
  obtain ⟨g, rfl⟩ := d1
  obtain ⟨t, rfl⟩ := d2
  refine ⟨g, t, n, rfl, by omega, ?_, ?_, Int.mul_comm _ _, Int.mul_comm _ _, fun z => h (by rw [z, Int.mul_zero]), by omega, ?_, ?_⟩
  · exact Int.mul_fdiv_cancel_left _ (by omega)
  · exact Int.mul_fdiv_cancel_left _ (by omega)
  · rw [Int.natAbs_mul]
    exact Nat.le_mul_of_pos_left _ (by omega)
  · rw [Int.natAbs_mul]
    exact Nat.le_mul_of_pos_left _ (by omega)
theorem le_bz {i j : Int} {c : Nat} (h : i.natAbs ≤ j.natAbs) (hj : Bz c j) : Bz c i := Nat.lt_of_le_of_lt h hj
theorem acc_map {xs : List Int} {g : Int} {acc : List V} (hl : acc.length = (xs.map V.int).length) (hel : ∀ (i : Nat) y, acc[i]? = some y → ∃ c, xs[i]? = some c ∧ y = .int (g * c)) : acc = (xs.map (g * ·)).map V.int := by
  rw [List.length_map] at hl
  refine List.ext_getElem? fun i => ?_
  by_cases hi : i < acc.length
  · obtain ⟨c, hc, hv⟩ := hel i _ (List.getElem?_eq_getElem hi)
    rw [List.getElem?_eq_getElem hi, hv, List.getElem?_map, List.getElem?_map, hc]
    rfl
  · rw [List.getElem?_eq_none (by omega), List.getElem?_eq_none (by simp only [List.length_map]; omega)]
theorem ixn_nat {n k : Nat} (h : k < n) : ixN n (k : Int) = some k := by
  unfold ixN
  rw [if_pos (by omega), if_pos (by omega)]
  exact congrArg some (by omega)
/-- the state of a division: after i turns -/
structure WsI (H : Hp) (ns es : List Int) (top : Int) (b m many : Nat) (r q : Addr) (i : Nat) (rs qs : List Int) (S : Int) (H' : Hp) : Prop where
  sm : Same H H'
  hr : H r = none
  hq : H q = none
  rq : r ≠ q
  er : H' r = some (.lst (rs.map V.int))
  eq : H' q = some (.lst (qs.map V.int))
  lr : rs.length + i = ns.length
  lq : qs.length = many
  S0 : S ≠ 0
  id : ∀ x, (S : Rat) * ev (toR ns) x = ev (toR qs) x * ev (toR (es ++ [top])) x + ev (toR rs) x
  z : ∀ k, k + i < many → qs[k]? = some 0
  br : ∀ k ∈ rs, Bz (b + i * (m + 1)) k
  bq : ∀ k ∈ qs, Bz (b + i * (m + 1)) k
  bS : Bz (i * (m + 1) + 1) S
section
variable {P : Program} {w : World} {K : PySem.W.Frag} {mg : Str → Option Value} {base : Heap}
/-- whole_split -/
def spWSplit (K : PySem.W.Frag) : Sp := fun vs H Q _ => ∃ (l1 l2 : Addr) (ns es : List Int) (top : Int) (b m : Nat), vs = [.ref l1, .ref l2] ∧ SqL K H l1 (ns.map V.int) ∧ SqL K H l2 ((es ++ [top]).map V.int) ∧ top ≠ 0 ∧ (∀ n ∈ ns, Bz b n) ∧ (∀ d ∈ es ++ [top], Bz m d) ∧ 0 < b ∧ m ≤ 9000 ∧ b + ns.length * (m + 1) + m ≤ 50000 ∧ ns.length < 500 ∧ es.length < 500 ∧
  ∀ (t q r : Addr) (qs rs : List Int) (S : Int) (H' : Hp), Same H H' → SqT K H' t [.ref q, .ref r, .int S] → H' q = some (.lst (qs.map V.int)) → H' r = some (.lst (rs.map V.int)) → S ≠ 0 →
    (∀ x, (S : Rat) * ev (toR ns) x = ev (toR qs) x * ev (toR (es ++ [top])) x + ev (toR rs) x) → rs.length ≤ es.length → rs.length ≤ ns.length → qs.length ≤ ns.length →
    (∀ k ∈ qs, Bz (b + ns.length * (m + 1)) k) → (∀ k ∈ rs, Bz (b + ns.length * (m + 1)) k) → Bz (ns.length * (m + 1) + 1) S → Q (.ref t) H'
theorem sc_whole_split : FnScope ["numbers", "by", "rest", "top", "many", "quotient", "scale", "at", "last", "part", "i", "grow", "take", "x"] ["numbers", "by"] (defScope s_whole_split) := ⟨rfl, rfl, rfl, by decide +kernel, rfl, by decide +kernel, by decide +kernel⟩
theorem d_whole_split (W : FunIn K mg "whole_split" s_whole_split) (T : Blt mg) : Df P w K mg base "whole_split" 1 ["numbers", "by"] (spWSplit K) := by
  obtain ⟨f, fd, F, hm⟩ := W
  refine ⟨f, fd, F.ok sc_whole_split (fun vs H Q E h => ?_) (fun cdv A outer s H vs Q E hr h => ?_), hm, F.kp, F.binds fun _ _ _ _ _ _ us hl => match us, hl with | [_, _], _ => rfl⟩
  · obtain ⟨l1, l2, ns, es, top, b, m, rfl, _⟩ := h
    rfl
  · obtain ⟨l1, l2, ns, es, top, b, m, rfl, h1, h2, htop, hzb, hzm, hb0, hm9, hsz, ln, le, q⟩ := h
    have nd := sc_whole_split.nd
    have h1' : SqL K H l1 (ns.map V.int) ∨ SqT K H l1 (ns.map V.int) := Or.inl h1
    have h2' : SqL K H l2 ((es ++ [top]).map V.int) ∨ SqT K H l2 ((es ++ [top]).map V.int) := Or.inl h2
    have htp : atI ((es ++ [top]).map V.int) (-1) = some (V.int top) := by
      rw [List.map_append]
      exact atI_last _ _
    refine ⟨_, (pss_cons (ps_set (i := 2) nd rfl (Or.inl rfl) (pe_callTy call_list_of (by rfl) T.n_list (by decide +kernel) (pa_cons (pv 0) pa_nil)))
        (pss_cons (ps_set (i := 3) nd rfl (Or.inl rfl) (pe_ix ix_list (pv 1) (pe_un un_neg pe_int) (fun _ _ => rfl)))
        (pss_cons (ps_set (i := 4) nd rfl (Or.inl rfl) (pe_callB (call_max2 rfl) (by rfl) T.n_max (by decide +kernel) (pa_cons pe_int (pa_cons (pe_op op_add (pe_op op_sub (pe_callB call_len_seq (by rfl) T.n_len (by decide +kernel) (pa_cons (pv 0) pa_nil)) (pe_callB call_len_seq (by rfl) T.n_len (by decide +kernel) (pa_cons (pv 1) pa_nil))) pe_int) pa_nil))))
        (pss_cons (ps_set (i := 5) nd rfl (Or.inl rfl) (pe_op op_rep (pe_lst (pa_cons pe_int pa_nil)) (pv 4)))
        (pss_cons (ps_set (i := 6) nd rfl (Or.inl rfl) pe_int)
        (pss_cons (ps_for PassesOwn.never rfl (pi_revR (by rfl) T.n_reversed (prg_1 (by rfl) T.n_range (pv 4))) (pg_name (i := 7) nd rfl (Or.inl rfl) (Or.inr rfl)) (pss_cons (ps_set (i := 8) nd rfl (Or.inl rfl) (pe_bm0 PySem.F.plainAttrs_list PySem.F.slot_list_pop PySem.F.type_list_pop mt_pop (pv 2)))
        (pss_cons (ps_if (pt_cmpR op_eq (pv 8) pe_int (nomark _)) (pss_one ps_continue) pss_nil)
        (pss_cons (ps_set (i := 9) nd rfl (Or.inl rfl) (pe_callBfun cr_gcd (by rfl) T.g_gcd (pa_cons (pv 8) (pa_cons (pv 3) pa_nil))))
        (pss_cons (ps_asg (pe_tup (pa_cons (pe_op op_fdivX (pv 3) (pv 9)) (pa_cons (pe_op op_fdivX (pv 8) (pv 9)) pa_nil))) (pg_tup rfl (pgs_cons (pg_name (i := 11) nd rfl (Or.inr rfl)) (pgs_cons (pg_name (i := 12) nd rfl (Or.inl rfl) (Or.inr rfl)) pgs_nil))))
        (pss_cons (ps_setLc (i := 2) (own := [("x", 13)]) rfl nd rfl rfl (sw_true rfl rfl rfl (by decide +kernel)) (pi_list (pv 2)) (blkOk_by (own := [("x", 13)]) (N := ["numbers", "by", "rest", "top", "many", "quotient", "scale", "at", "last", "part", "i", "grow", "take", "x"]) (sc := defScope s_whole_split) (by decide +kernel)) (fun _ _ _ _ _ => (pg_name (i := 13) nd rfl (Or.inl rfl) (Or.inr rfl))) (fun _ _ _ _ _ => pts_nil) (fun _ _ _ _ _ => (pe_op op_mulX (pv 11) (pv 13))))
        (pss_cons (ps_setLc (i := 5) (own := [("x", 13)]) rfl nd rfl rfl (sw_true rfl rfl rfl (by decide +kernel)) (pi_list (pv 5)) (blkOk_by (own := [("x", 13)]) (N := ["numbers", "by", "rest", "top", "many", "quotient", "scale", "at", "last", "part", "i", "grow", "take", "x"]) (sc := defScope s_whole_split) (by decide +kernel)) (fun _ _ _ _ _ => (pg_name (i := 13) nd rfl (Or.inl rfl) (Or.inr rfl))) (fun _ _ _ _ _ => pts_nil) (fun _ _ _ _ _ => (pe_op op_mulX (pv 11) (pv 13))))
        (pss_cons (ps_asg (pv 12) (pg_sub (pv 5) (pv 7) set_list))
        (pss_cons (ps_aug (i := 6) nd rfl (Or.inl rfl) (pv 11) ip_mulX)
        (pss_one (ps_for PassesOwn.never rfl (pi_range1 rfl T.n_range (pa_cons (pe_op op_sub (pe_callB call_len_seq (by rfl) T.n_len (by decide +kernel) (pa_cons (pv 1) pa_nil)) pe_int) pa_nil)) (pg_name (i := 10) nd rfl (Or.inl rfl) (Or.inr rfl)) (pss_one (ps_augS (pv 2) (pe_op op_add (pv 7) (pv 10)) get_list (pe_op op_mulX (pv 12) (pe_ix ix_list (pv 1) (pv 10) (fun _ _ => rfl))) ip_sub set_list)))))))))))))
        (pss_one (ps_ret (pe_tup (pa_cons (pv 5) (pa_cons (pv 2) (pa_cons (pv 6) pa_nil)))))))))))), ?_⟩
    walk_at "rd"
    intro r hr0
    have s0 := same_new (o := .lst (ns.map V.int)) hr0
    have e0 : upd H r (.lst (ns.map V.int)) r = some (.lst (ns.map V.int)) := upd_same
    generalize upd H r (.lst (ns.map V.int)) = H0 at s0 e0
    have h1' : SqL K H0 l1 (ns.map V.int) ∨ SqT K H0 l1 (ns.map V.int) := Or.inl (s0.seq h1)
    have h2' : SqL K H0 l2 ((es ++ [top]).map V.int) ∨ SqT K H0 l2 ((es ++ [top]).map V.int) := Or.inl (s0.seq h2)
    have h2q : SqL K H0 l2 ((es ++ [top]).map V.int) := s0.seq h2
    obtain ⟨many, hmany, hmn⟩ : ∃ many : Nat, (if ((ns.map V.int).length : Int) - (((es ++ [top]).map V.int).length : Int) + 1 > 0 then ((ns.map V.int).length : Int) - (((es ++ [top]).map V.int).length : Int) + 1 else 0) = (many : Int) ∧ many = ns.length - es.length := by
      refine ⟨ns.length - es.length, ?_, rfl⟩
      rw [List.length_map, List.length_map, List.length_append, List.length_singleton]
      split <;> omega
    walk_at "rd"
    rw [hmany]
    intro p0 hp0
    have sp0 := same_new (o := .lst [V.int 0]) hp0
    have ep0 : upd H0 p0 (.lst [V.int 0]) p0 = some (.lst [V.int 0]) := upd_same
    have ep1 := sp0 _ _ e0
    generalize upd H0 p0 (.lst [V.int 0]) = H1 at sp0 ep0 ep1
    have hmL : [V.int 0].length * ((many : Int)).toNat ≤ sizeLine := by
      show 1 * _ ≤ _
      rw [Int.toNat_natCast, sizeLine_eq]
      omega
    have hm1 : -(2 ^ 63) ≤ (many : Int) := by omega
    have hm2 : (many : Int) < 2 ^ 63 := by omega
    refine ⟨_, rfl, p0, (many : Int), [V.int 0], rfl, rfl, ep0, hm1, hm2, hmL, fun q0 hq0 => ?_⟩
    have ef : (List.replicate (many : Int).toNat [V.int 0]).flatten = ((List.replicate many (0 : Int)).map V.int) := by
      rw [Int.toNat_natCast]
      generalize many = k
      induction k with
      | zero => rfl
      | succ k ih => rw [List.replicate_succ, List.flatten_cons, ih, List.replicate_succ]; rfl
    rw [ef]
    have s1 := (s0.trans sp0).trans (same_new (o := .lst ((List.replicate many (0 : Int)).map V.int)) hq0)
    have rq : r ≠ q0 := fun z => by rw [z, hq0] at ep1; cases ep1
    have e1 : upd H1 q0 (.lst ((List.replicate many (0 : Int)).map V.int)) q0 = some (.lst ((List.replicate many (0 : Int)).map V.int)) := upd_same
    have er : upd H1 q0 (.lst ((List.replicate many (0 : Int)).map V.int)) r = some (.lst (ns.map V.int)) := by rw [upd_ne rq]; exact ep1
    have hqn : H q0 = none := (s0.trans sp0).free hq0
    generalize upd H1 q0 (.lst ((List.replicate many (0 : Int)).map V.int)) = H2 at s1 e1 er
    have I0 : WsI H ns es top b m many r q0 0 ns (List.replicate many 0) 1 H2 := by
      refine ⟨s1, hr0, hqn, rq, er, e1, rfl, List.length_replicate, by decide, fun x => ?_, fun k hk => ?_, fun k hk => ?_, fun k hk => ?_, ?_⟩
      · rw [toR_rep]
        push_cast
        grind
      · rw [List.getElem?_replicate, if_pos (by omega)]
      · rw [Nat.zero_mul]
        exact hzb k hk
      · rw [(List.mem_replicate.mp hk).2, Nat.zero_mul]
        exact Nat.two_pow_pos _
      · rw [Nat.zero_mul]
        exact (by decide : (1 : Int).natAbs < 2 ^ 1)
    clear hm1 hm2 hmL ef er e1 s1 ep1 ep0 sp0 e0 s0
    have hmm : ((many : Int) - 0).toNat = many := by omega
    refine ⟨_, rfl, (many : Int), rfl, by decide, by decide, by omega, by omega, ?_⟩
    rw [hmm]
    refine for_it walk_rangeC (fun i σ H' => ∃ (r q : Addr) (rs qs : List Int) (S : Int) (o7 o8 o9 o10 o11 o12 : Option V), σ = [some (.ref l1), some (.ref l2), some (.ref r), some (.int top), some (.int many), some (.ref q), some (.int S), o7, o8, o9, o10, o11, o12, none] ∧ WsI H ns es top b m many r q i rs qs S H')
      ⟨r, q0, ns, List.replicate many 0, 1, none, none, none, none, none, none, rfl, I0⟩ (fun _ _ _ _ _ => trivial) ?_ ?_
    · rintro i x σ H3' H3 hi ⟨r, q1, rs, qs, S, o7, o8, o9, o10, o11, o12, rfl, I⟩ ⟨rfl, rfl⟩
      obtain ⟨a, ha⟩ : ∃ a, a + i + 1 = many := ⟨many - 1 - i, by omega⟩
      have hx : (0 + (many : Int) - 1 + (i : Int) * -1) = (a : Int) := by omega
      have hx' : (fun i : Nat => V.int (0 + (many : Int) - 1 + (i : Int) * -1)) i = V.int (a : Int) := congrArg V.int hx
      rw [hx']
      have lr := I.lr
      have hmle : es.length + many = ns.length := by omega
      obtain ⟨rs0, last, rfl⟩ : ∃ rs0 last, rs = rs0 ++ [last] := by
        rcases List.eq_nil_or_concat rs with z | ⟨l, c, z⟩
        · rw [z, List.length_nil] at lr
          omega
        · exact ⟨l, c, by simpa using z⟩
      rw [List.length_append, List.length_singleton] at lr
      have l0 : rs0.length = a + es.length := by omega
      have er : H3 r = some (.lst (rs0.map V.int ++ [V.int last])) := by
        have := I.er
        rwa [List.map_append] at this
      have g1 : (rs0.map V.int ++ [V.int last])[(rs0.map V.int ++ [V.int last]).length - 1]? = some (V.int last) := by simp
      have g2 : (rs0.map V.int ++ [V.int last]).dropLast = rs0.map V.int := List.dropLast_concat
      have g3 : tyV K "list" (V.ref r) H3 := Or.inl ⟨rfl, _, SqL.of er⟩
      refine ⟨_, rfl, g3, r, _, _, rfl, rfl, er, g1, ?_⟩
      rw [g2]
      have s4 : Same H (upd H3 r (.lst (rs0.map V.int))) := fun c o e => by rw [upd_ne (ne_of_none e I.hr)]; exact I.sm _ _ e
      have er4 : upd H3 r (.lst (rs0.map V.int)) r = some (.lst (rs0.map V.int)) := upd_same
      have eq4 : upd H3 r (.lst (rs0.map V.int)) q1 = some (.lst (qs.map V.int)) := by rw [upd_ne (Ne.symm I.rq)]; exact I.eq
      generalize upd H3 r (.lst (rs0.map V.int)) = H4 at s4 er4 eq4
      have hid := I.id
      have mle : b + i * (m + 1) ≤ b + (i + 1) * (m + 1) := Nat.add_le_add_left (Nat.mul_le_mul_right _ (Nat.le_succ i)) b
      have mle2 : i * (m + 1) + 1 ≤ (i + 1) * (m + 1) + 1 := Nat.add_le_add_right (Nat.mul_le_mul_right _ (Nat.le_succ i)) 1
      walk_at "rd"
      refine tif (fun hz => ?_) (fun hnz => ?_)
      · refine ⟨r, q1, rs0, qs, S, _, _, o9, o10, o11, o12, rfl, s4, I.hr, I.hq, I.rq, er4, eq4, by omega, I.lq, I.S0, fun x => ?_, fun k hk => I.z k (by omega), fun k hk => (I.br k (List.mem_append_left _ hk)).mono mle, fun k hk => (I.bq k hk).mono mle, I.bS.mono mle2⟩
        have hz0 : last = 0 := V.int.inj hz
        rw [hid, toR_concat rs0 last, hz0]
        push_cast
        grind
      have hl0 : last ≠ 0 := fun z => hnz (congrArg V.int z)
      obtain ⟨g, t, G, hG, hG0, hgq, htq, htg, hlt, hg0, hGle, hgle, htle⟩ := gcd_parts last htop
      have zm : Bz m top := hzm top (by simp)
      have zl : Bz (b + i * (m + 1)) last := I.br last (by simp)
      have zg : Bz m g := le_bz hgle zm
      have zt : Bz (b + i * (m + 1)) t := le_bz htle zl
      have zG : Bz 9000 G := (le_bz hGle zm).mono hm9
      have c1 : CDivX top G := cdivx (by omega) zG (Nat.le_refl _)
      have c2 : CDivX last G := cdivx (by omega) zG (Nat.le_refl _)
      have z1 : b + i * (m + 1) + (m + 1) ≤ b + ns.length * (m + 1) := by
        have := Nat.mul_le_mul_right (m + 1) (show i + 1 ≤ ns.length by omega)
        rw [Nat.add_mul, Nat.one_mul] at this
        omega
      rw [← hG] at c1 c2
      walk_at "rd"
      rw [hG, hgq, htq]
      intro p hp
      have s5 := same_new (o := .tup [V.int g, V.int t]) hp
      have q5 : SqT K (upd H4 p (.tup [V.int g, V.int t])) p [V.int g, V.int t] := SqT.of upd_same
      have er5 := s5 _ _ er4
      have eq5 := s5 _ _ eq4
      have s5' := s4.trans s5
      generalize upd H4 p (.tup [V.int g, V.int t]) = H5 at s5 q5 er5 eq5 s5'
      refine ⟨p, _, rfl, q5, rfl, _, _, rfl, _, _, rfl, rfl, ?_⟩
      have zr0 : ∀ n ∈ rs0, Bz (b + i * (m + 1)) n := fun n hn => I.br n (List.mem_append_left _ hn)
      refine ⟨_, rfl, r, rfl, ⟨_, SqL.of er5⟩, fun l hl => lc_map (walk_list (K := K) (a := r) (xs := rs0.map V.int)) hl (by rw [List.length_map, sizeLine_eq]; omega) (fun i _ v => ∃ c, rs0[i]? = some c ∧ v = .int (g * c)) (fun _ _ _ _ _ h => h) (fun H1 s1 => s1.seq (SqL.of er5)) ?_ ?_⟩
      · rintro j u G1 G2 hj s1 _ ⟨rfl, hu⟩ Fin hF
        rw [List.getElem?_map] at hu
        obtain ⟨c, hc, rfl⟩ := Option.map_eq_some_iff.mp hu
        have cz := zr0 c (List.mem_of_getElem? hc)
        have c3 : CMulX g c := cmulx zg cz (by omega)
        walk_at "rd"
        exact hF _ _ (Same.refl _) ⟨c, hc, rfl⟩
      rintro H6 acc s6 hacc hlen hel
      rw [acc_map hlen hel] at hacc
      clear hel hlen acc
      have eq6 := s6 _ _ eq5
      have s6' := s5'.trans s6
      have hlH : H l = none := s5'.free hl
      refine ⟨_, rfl, q1, rfl, ⟨_, SqL.of eq6⟩, fun l' hl' => lc_map (walk_list (K := K) (a := q1) (xs := qs.map V.int)) hl' (by rw [List.length_map, I.lq, sizeLine_eq]; omega) (fun i _ v => ∃ c, qs[i]? = some c ∧ v = .int (g * c)) (fun _ _ _ _ _ h => h) (fun H1 s1 => s1.seq (SqL.of eq6)) ?_ ?_⟩
      · rintro j u G1 G2 hj s1 _ ⟨rfl, hu⟩ Fin hF
        rw [List.getElem?_map] at hu
        obtain ⟨c, hc, rfl⟩ := Option.map_eq_some_iff.mp hu
        have cz := I.bq c (List.mem_of_getElem? hc)
        have c3 : CMulX g c := cmulx zg cz (by omega)
        walk_at "rd"
        exact hF _ _ (Same.refl _) ⟨c, hc, rfl⟩
      rintro H7 acc s7 hacc2 hlen hel
      rw [acc_map hlen hel] at hacc2
      clear hel hlen acc
      have hacc7 := s7 _ _ hacc
      have s7' := s6'.trans s7
      have hl'H : H l' = none := s6'.free hl'
      have hll : l ≠ l' := fun z => by rw [z, hl'] at hacc; cases hacc
      have lq := I.lq
      have ga : ixN ((qs.map (g * ·)).map V.int).length (a : Int) = some a := ixn_nat (by rw [List.length_map, List.length_map, lq]; omega)
      refine ⟨_, rfl, _, rfl, _, rfl, l', _, _, a, rfl, rfl, hacc2, ga, ?_⟩
      rw [← List.map_set]
      have s8' : Same H (upd H7 l' (.lst (((qs.map (g * ·)).set a t).map V.int))) := fun c o e => by rw [upd_ne (ne_of_none e hl'H)]; exact s7' _ _ e
      have eq8 : upd H7 l' (.lst (((qs.map (g * ·)).set a t).map V.int)) l' = some (.lst (((qs.map (g * ·)).set a t).map V.int)) := upd_same
      have er8 : upd H7 l' (.lst (((qs.map (g * ·)).set a t).map V.int)) l = some (.lst ((rs0.map (g * ·)).map V.int)) := by rw [upd_ne hll]; exact hacc7
      generalize upd H7 l' (.lst (((qs.map (g * ·)).set a t).map V.int)) = H8 at s8' eq8 er8
      have cS : CMulX S g := cmulx I.bS zg (by omega)
      have h28 : SqL K H8 l2 ((es ++ [top]).map V.int) ∨ SqT K H8 l2 ((es ++ [top]).map V.int) := Or.inl (s8'.seq h2)
      have hle : (((es ++ [top]).map V.int).length : Int) - 1 = (es.length : Int) := by
        rw [List.length_map, List.length_append, List.length_singleton]
        omega
      have eB : b + (i + 1) * (m + 1) = b + i * (m + 1) + m + 1 := by rw [Nat.add_mul, Nat.one_mul]; omega
      refine ⟨_, rfl, _, rfl, S, g, rfl, rfl, cS, _, rfl, l2, _, rfl, h28, _, _, rfl, rfl, _, rfl, by rw [hle]; omega, by rw [hle]; omega, ?_⟩
      rw [hle, Int.toNat_natCast]
      refine for_it walk_range (fun j σ H' => ∃ (rs' : List Int) (o10 : Option V), σ = [some (.ref l1), some (.ref l2), some (.ref l), some (.int top), some (.int many), some (.ref l'), some (.int (S * g)), some (.int a), some (.int last), some (.int G), o10, some (.int g), some (.int t), none] ∧ Same H H' ∧ H' l = some (.lst (rs'.map V.int)) ∧ H' l' = some (.lst (((qs.map (g * ·)).set a t).map V.int)) ∧ rs'.length = rs0.length ∧ (∀ x, ev (toR rs') x = (g : Rat) * ev (toR rs0) x - (t : Rat) * x ^ a * ev (toR (es.take j)) x) ∧ (∀ k ∈ rs', Bz (b + (i + 1) * (m + 1)) k) ∧ ∀ k, a + j ≤ k → rs'[k]? = (rs0.map (g * ·))[k]?)
        ⟨rs0.map (g * ·), _, rfl, s8', er8, eq8, List.length_map _, fun x => ?_, fun k hk => ?_, fun _ _ => rfl⟩ (fun _ _ _ _ _ => trivial) ?_ ?_
      · rw [toR_smul, List.take_zero]
        show _ = _ - _ * 0
        grind
      · obtain ⟨c, hc, rfl⟩ := List.mem_map.mp hk
        exact (Bz.mul zg (zr0 c hc)).mono (by omega)
      · rintro j x σ G1' G1 hj ⟨rs', o10, rfl, sg, eg, egq, lg, ig, bg, pg⟩ ⟨rfl, rfl⟩
        have hxj : (fun i : Nat => V.int (0 + (i : Int))) j = V.int (j : Int) := congrArg V.int (by omega)
        rw [hxj]
        have hk : a + j < rs'.length := by omega
        obtain ⟨c, hc⟩ : ∃ c, rs0[a + j]? = some c := ⟨_, List.getElem?_eq_getElem (by omega)⟩
        obtain ⟨d, hd⟩ : ∃ d, es[j]? = some d := ⟨_, List.getElem?_eq_getElem hj⟩
        have hgc : rs'[a + j]? = some (g * c) := by
          rw [pg _ (Nat.le_refl _), List.getElem?_map, hc]
          rfl
        have hgc' : rs'[a + j] = g * c := by
          rw [List.getElem?_eq_getElem hk] at hgc
          exact Option.some.inj hgc
        have zc := zr0 c (List.mem_of_getElem? hc)
        have zd : Bz m d := hzm d (List.mem_append_left _ (List.mem_of_getElem? hd))
        have ctd : CMulX t d := cmulx zt zd (by omega)
        have haj : (a : Int) + (j : Int) = ((a + j : Nat) : Int) := by omega
        have g1 : SqL K G1 l (rs'.map V.int) := SqL.of eg
        have g2' : (rs'.map V.int)[((a : Int) + (j : Int)).toNat]? = some (V.int (g * c)) := by
          rw [haj, Int.toNat_natCast, List.getElem?_map, hgc]
          rfl
        have g3' : (0 : Int) ≤ (a : Int) + (j : Int) := by omega
        have g4 : ixN (rs'.map V.int).length ((a : Int) + (j : Int)) = some (a + j) := by
          rw [haj]
          exact ixn_nat (by rw [List.length_map]; exact hk)
        have h2g : SqL K G1 l2 ((es ++ [top]).map V.int) := sg.seq h2
        have gat : atI ((es ++ [top]).map V.int) (j : Int) = some (V.int d) := atI_nat (by
          rw [List.getElem?_map, List.getElem?_append_left hj, hd]
          rfl)
        have g5 : (rs'.map V.int).set (a + j) (V.int (g * c - t * d)) = (rs'.set (a + j) (g * c - t * d)).map V.int := by rw [List.map_set]
        clear hxj
        walk_at "rd"
        rw [g5]
        refine ⟨rs'.set (a + j) (g * c - t * d), _, rfl, fun b' o e => ?_, upd_same, by rw [upd_ne (Ne.symm hll)]; exact egq, by rw [List.length_set]; exact lg, fun x => ?_, fun k hk' => ?_, fun k hk' => ?_⟩
        · rw [upd_ne (ne_of_none e hlH)]
          exact sg _ _ e
        · have e1 : g * c - t * d = rs'[a + j] + (-(t * d)) := by rw [hgc']; omega
          rw [e1, toR_set hk, ig, toR_take_succ hd, rpow_add]
          push_cast
          grind
        · rcases List.mem_or_eq_of_mem_set hk' with h' | h'
          · exact bg k h'
          · rw [h']
            have b1 : Bz (b + i * (m + 1) + m) (g * c) := (Bz.mul zg zc).mono (by omega)
            have b2 : Bz (b + i * (m + 1) + m) (t * d) := (Bz.mul zt zd).mono (by omega)
            exact (Bz.sub b1 b2).mono (by omega)
        · rw [List.getElem?_set_ne (by omega)]
          exact pg k (by omega)
      · rintro σ G1 ⟨rs', o10, rfl, sg, eg, egq, lg, ig, bg, pg⟩
        rw [List.take_length] at ig
        refine ⟨l, l', rs', (qs.map (g * ·)).set a t, S * g, _, _, _, _, _, _, rfl, sg, hlH, hl'H, hll, eg, egq, by omega, by rw [List.length_set, List.length_map]; exact lq, Int.mul_ne_zero I.S0 hg0, fun x => ?_, fun k hk => ?_, bg, fun k hk => ?_, ?_⟩
        · have hqa : a < (qs.map (g * ·)).length := by rw [List.length_map]; omega
          have hq0 : (qs.map (g * ·))[a] = 0 := by
            have z := I.z a (by omega)
            have : (qs.map (g * ·))[a]? = some (g * 0) := by rw [List.getElem?_map, z]; rfl
            rw [List.getElem?_eq_getElem hqa, Int.mul_zero] at this
            exact Option.some.inj this
          have e1 : t = (qs.map (g * ·))[a] + t := by rw [hq0]; omega
          have e2 : ev (toR ((qs.map (g * ·)).set a t)) x = (g : Rat) * ev (toR qs) x + (t : Rat) * x ^ a := by
            have := toR_set hqa t x
            rw [← e1, toR_smul] at this
            exact this
          rw [e2, ig, toR_concat es top]
          have h0 := hid x
          rw [toR_concat es top, toR_concat rs0 last, l0, rpow_add] at h0
          have hgl : (g : Rat) * (last : Rat) = (t : Rat) * (top : Rat) := by
            have : g * last = t * top := by rw [hlt, htg]; grind
            exact_mod_cast this
          have := split_id h0 hgl
          push_cast
          exact this
        · rw [List.getElem?_set_ne (by omega), List.getElem?_map, I.z k (by omega)]
          show some (g * 0) = _
          rw [Int.mul_zero]
        · rcases List.mem_or_eq_of_mem_set hk with h' | h'
          · obtain ⟨c, hc, rfl⟩ := List.mem_map.mp h'
            exact (Bz.mul zg (I.bq c hc)).mono (by omega)
          · rw [h']
            exact zt.mono mle
        · have := (Bz.mul I.bS zg).mono (c := (i + 1) * (m + 1) + 1) (by rw [Nat.add_mul, Nat.one_mul]; omega)
          exact this
    · rintro σ G1 ⟨r, q1, rs, qs, S, o7, o8, o9, o10, o11, o12, rfl, I⟩
      walk_at "rd"
      intro t ht
      have s2 := same_new (o := .tup [.ref q1, .ref r, .int S]) ht
      have lr := I.lr
      have lq := I.lq
      have mm : many * (m + 1) ≤ ns.length * (m + 1) := Nat.mul_le_mul_right _ (by omega)
      exact q t q1 r qs rs S _ (I.sm.trans s2) (SqT.of upd_same) (s2 _ _ I.eq) (s2 _ _ I.er) I.S0 I.id (by omega) (by omega) (by omega) (fun k hk => (I.bq k hk).mono (by omega)) (fun k hk => (I.br k hk).mono (by omega)) (I.bS.mono (by omega))
end
end Vx
namespace Vx
open PySem PySem.Spec PyProof.Rows L2
local macro_rules | `(tactic| walk_at "cl") => `(tactic| first | rfl | assumption | omega | exact sz_of 0 rfl (by decide) | exact sz_of 1 rfl (by decide) | exact sz_of 2 rfl (by decide) | exact sz_of 3 rfl (by decide) | exact cmulx (by assumption) (by assumption) (by decide) | exact Bz.mono (Bz.mul (by assumption) (by assumption)) (by decide) | decide)
local macro_rules | `(tactic| walk_at "ex") => `(tactic| ((show Exists _); first | apply @Exists.intro V | apply @Exists.intro Int | apply @Exists.intro Addr | apply @Exists.intro (List V) | apply @Exists.intro Nat | apply @Exists.intro Str | apply @Exists.intro Bool | apply @Exists.intro (Option V) | apply @Exists.intro String | apply @Exists.intro Rat | apply @Exists.intro (List Rat)))
local macro_rules | `(tactic| walk_at "rd") => `(tactic| ((repeat (first | (walk_at "ex") | (apply And.intro; (focus (walk_at "cl"))))); (try dsimp only [])))
local macro_rules | `(tactic| walk_at "r0") => `(tactic| (repeat (first | (walk_at "ex") | (apply And.intro; (focus (walk_at "cl"))))))
section
variable {P : Program} {w : World} {K : PySem.W.Frag} {mg : Str → Option Value} {base : Heap}
/-- split_row -/
def bSplit (l1 b1 l2 b2 : Nat) : Nat := (l1 + 1) * b1 + 1 + l1 * ((l2 + 1) * b2 + 2) + (l2 + 1) * b2 + 1
def spSplit (K : PySem.W.Frag) : Sp := fun vs H Q _ => ∃ (x y : V) (ps qs : List Rat) (b1 b2 : Nat), vs = [x, y] ∧ RwT K H x ps ∧ RwT K H y qs ∧ Tr qs ∧ qs ≠ [] ∧ Qs b1 ps ∧ Qs b2 qs ∧ ps.length < 100 ∧ qs.length < 100 ∧ bSplit ps.length b1 qs.length b2 ≤ 8000 ∧
  ∀ (t : Addr) (v1 v2 : V) (q r : List Rat) H', Same H H' → SqT K H' t [v1, v2] → RwT K H' v1 q → RwT K H' v2 r → Tr q → Tr r → (∀ z, ev ps z = ev q z * ev qs z + ev r z) → r.length < qs.length → q.length ≤ ps.length → r.length ≤ ps.length →
    Qs (bSplit ps.length b1 qs.length b2) q → Qs (bSplit ps.length b1 qs.length b2) r → Q (.ref t) H'
theorem sc_split_row : FnScope ["row", "other", "numbers", "under", "by", "unit", "quotient", "rest", "scale", "full", "x"] ["row", "other"] (defScope s_split_row) := ⟨rfl, rfl, rfl, by decide +kernel, rfl, by decide +kernel, by decide +kernel⟩
theorem d_split_row (W : FunIn K mg "split_row" s_split_row) (Dcleared : Df P w K mg base "cleared" 1 ["row"] (spClear K)) (Dwhole_split : Df P w K mg base "whole_split" 1 ["numbers", "by"] (spWSplit K)) (Drow_over : Df P w K mg base "row_over" 3 ["numbers", "under"] (spOver K)) : Df P w K mg base "split_row" 4 ["row", "other"] (spSplit K) := by
  obtain ⟨f, fd, F, hm⟩ := W
  refine ⟨f, fd, F.ok sc_split_row (fun vs H Q E h => ?_) (fun cdv A outer s H vs Q E hr h => ?_), hm, F.kp, F.binds fun _ _ _ _ _ _ us hl => match us, hl with | [_, _], _ => rfl⟩
  · obtain ⟨x, y, ps, qs, b1, b2, rfl, _⟩ := h
    rfl
  · obtain ⟨x, y, ps, qs, b1, b2, rfl, hx, hy, tq, nq, zp, zq, lp, lq, hb, q⟩ := h
    have nd := sc_split_row.nd
    unfold bSplit at hb
    have m1 : (ps.length + 1) * b1 = ps.length * b1 + b1 := by rw [Nat.add_mul, Nat.one_mul]
    have m2 : (qs.length + 1) * b2 = qs.length * b2 + b2 := by rw [Nat.add_mul, Nat.one_mul]
    have m3 : ps.length * (b2 + (qs.length * b2 + 1) + 1) = ps.length * ((qs.length + 1) * b2 + 2) := by
      congr 1
      omega
    refine ⟨_, (pss_cons (ps_asg (pe_d Dcleared (hr.mono (by decide)) rfl (pa_cons (pv 0) pa_nil)) (pg_tup rfl (pgs_cons (pg_name (i := 2) nd rfl (Or.inl rfl) (Or.inr rfl)) (pgs_cons (pg_name (i := 3) nd rfl (Or.inl rfl) (Or.inr rfl)) pgs_nil))))
        (pss_cons (ps_asg (pe_d Dcleared (hr.mono (by decide)) rfl (pa_cons (pv 1) pa_nil)) (pg_tup rfl (pgs_cons (pg_name (i := 4) nd rfl (Or.inl rfl) (Or.inr rfl)) (pgs_cons (pg_name (i := 5) nd rfl (Or.inr rfl)) pgs_nil))))
        (pss_cons (ps_asg (pe_d Dwhole_split (hr.mono (by decide)) rfl (pa_cons (pv 2) (pa_cons (pv 4) pa_nil))) (pg_tup rfl (pgs_cons (pg_name (i := 6) nd rfl (Or.inl rfl) (Or.inr rfl)) (pgs_cons (pg_name (i := 7) nd rfl (Or.inl rfl) (Or.inr rfl)) (pgs_cons (pg_name (i := 8) nd rfl (Or.inl rfl) (Or.inr rfl)) pgs_nil)))))
        (pss_cons (ps_set (i := 9) nd rfl (Or.inl rfl) (pe_op op_mulX (pv 8) (pv 3)))
        (pss_one (ps_ret (pe_tup (pa_cons (pe_d Drow_over (hr.mono (by decide)) rfl (pa_cons (pe_lc (own := [("x", 10)]) rfl nd (pi_list (pv 6)) (blkOk_by (own := [("x", 10)]) (N := ["row", "other", "numbers", "under", "by", "unit", "quotient", "rest", "scale", "full", "x"]) (sc := defScope s_split_row) (by decide +kernel)) (fun _ _ _ _ _ => (pg_name (i := 10) nd rfl (Or.inl rfl) (Or.inr rfl))) (fun _ _ _ _ _ => pts_nil) (fun _ _ _ _ _ => (pe_op op_mulX (pv 5) (pv 10)))) (pa_cons (pv 9) pa_nil))) (pa_cons (pe_d Drow_over (hr.mono (by decide)) rfl (pa_cons (pv 7) (pa_cons (pv 9) pa_nil))) pa_nil))))))))), ?_⟩
    refine ⟨x, rfl, x, ps, b1, rfl, hx, zp, by omega, by omega, fun t1 l1 ns D1 H1 s1 ht1 hl1 hn1 hD1 hz1 hzn1 he1 => ?_⟩
    refine ⟨t1, _, rfl, ht1, rfl, _, _, rfl, _, _, rfl, rfl, ?_⟩
    have hy1 := RwT.mono (same_t s1) hy
    refine ⟨y, rfl, y, qs, b2, rfl, hy1, zq, by omega, by omega, fun t2 l2 ms D2 H2 s2 ht2 hl2 hn2 hD2 hz2 hzn2 he2 => ?_⟩
    refine ⟨t2, _, rfl, ht2, rfl, _, _, rfl, _, _, rfl, rfl, ?_⟩
    have hl1' : SqL K H2 l1 (ns.map V.int) := s2.seq (SqL.of hl1)
    have hl2' : SqL K H2 l2 (ms.map V.int) := SqL.of hl2
    obtain ⟨es, top, rfl⟩ : ∃ es top, ms = es ++ [top] := by
      rcases List.eq_nil_or_concat ms with z | ⟨l, c, z⟩
      · rw [z, List.length_nil] at hn2
        exact absurd (List.length_eq_zero_iff.mp hn2.symm) nq
      · exact ⟨l, c, by simpa using z⟩
    have htop : top ≠ 0 := fun z => by
      have e := congrArg List.getLast? he2
      rw [List.map_append, List.getLast?_append, List.getLast?_map, List.getLast?_map (l := qs), List.getLast?_eq_getLast nq] at e
      have e' : (top : Rat) = (D2 : Rat) * qs.getLast nq := by simpa using e
      have h1 := tq nq
      have h2 : (D2 : Rat) ≠ 0 := by exact_mod_cast (show D2 ≠ 0 by omega)
      rw [z] at e'
      grind
    have hle : es.length + 1 = qs.length := by
      rw [← hn2, List.length_append]
      rfl
    refine ⟨_, rfl, _, rfl, l1, l2, ns, es, top, _, _, rfl, hl1', hl2', htop, hzn1, hzn2, by omega, by omega, by rw [hn1]; omega, by omega, by omega, fun t3 q3 r3 Qn Rn S H3 s3 ht3 eQ eR hS hid lR1 lR2 lQ bQ bR bS => ?_⟩
    rw [hn1] at bQ bR bS lQ lR2
    refine ⟨t3, _, rfl, ht3, rfl, _, _, rfl, _, _, rfl, _, _, rfl, rfl, ?_⟩
    have cF : CMulX S D1 := cmulx bS hz1 (by omega)
    have hF0 : S * D1 ≠ 0 := Int.mul_ne_zero hS (by omega)
    have hFz : Bz 8000 (S * D1) := (Bz.mul bS hz1).mono (by omega)
    refine ⟨_, rfl, _, rfl, S, D1, rfl, rfl, cF, ?_⟩
    refine ⟨_, rfl, q3, rfl, ⟨_, SqL.of eQ⟩, fun l hl => lc_map (walk_list (K := K) (a := q3) (xs := Qn.map V.int)) hl (by rw [List.length_map, sizeLine_eq]; omega) (fun i _ v => ∃ c, Qn[i]? = some c ∧ v = .int (D2 * c)) (fun _ _ _ _ _ h => h) (fun H1 s1 => s1.seq (SqL.of eQ)) ?_ ?_⟩
    · rintro j u G1 G2 hj s1 _ ⟨rfl, hu⟩ Fin hF
      rw [List.getElem?_map] at hu
      obtain ⟨c, hc, rfl⟩ := Option.map_eq_some_iff.mp hu
      have cz := bQ c (List.mem_of_getElem? hc)
      have c3 : CMulX D2 c := cmulx hz2 cz (by omega)
      walk_at "rd"
      exact hF _ _ (Same.refl _) ⟨c, hc, rfl⟩
    rintro H4 acc s4 hacc hlen hel
    rw [acc_map hlen hel] at hacc
    clear hel hlen acc
    have eR4 := s4 _ _ eR
    refine ⟨_, rfl, l, Qn.map (D2 * ·), S * D1, rfl, SqL.of hacc, hF0, hFz, by rw [List.length_map]; omega, fun v1 q1 H5 s5 hv1 tq1 hev1 hqz1 hlq1 => ?_⟩
    have eR5 := s5 _ _ eR4
    refine ⟨_, rfl, _, rfl, r3, Rn, S * D1, rfl, SqL.of eR5, hF0, hFz, by omega, fun v2 q2 H6 s6 hv2 tq2 hev2 hqz2 hlq2 => ?_⟩
    walk_at "rd"
    intro t ht
    have s7 := same_new (o := .tup [v1, v2]) ht
    rw [List.length_map] at hlq1
    refine q t v1 v2 q1 q2 _ (((((s1.trans s2).trans s3).trans s4).trans s5).trans s6 |>.trans s7) (SqT.of upd_same) ((hv1.mono (same_t s6)).mono (same_t s7)) (hv2.mono (same_t s7)) tq1 tq2 (fun z => ?_) (by omega) (by omega) (by omega) ?_ ?_
    · have h0 := hid z
      rw [toR_scale he1, toR_scale he2] at h0
      rw [hev1, hev2, toR_smul]
      have h1 : (D1 : Rat) ≠ 0 := by exact_mod_cast (show D1 ≠ 0 by omega)
      have h2 : (S : Rat) ≠ 0 := by exact_mod_cast hS
      have h3 : ((S * D1 : Int) : Rat) ≠ 0 := by exact_mod_cast hF0
      have h4 : ((S * D1 : Int) : Rat) = (S : Rat) * (D1 : Rat) := by push_cast; rfl
      rw [h4] at *
      grind
    · refine hqz1 _ (fun n hn => ?_) ((Bz.mul bS hz1).mono (by unfold bSplit; omega))
      obtain ⟨c, hc, rfl⟩ := List.mem_map.mp hn
      exact (Bz.mul hz2 (bQ c hc)).mono (by unfold bSplit; omega)
    · exact hqz2 _ (fun n hn => (bR n hn).mono (by unfold bSplit; omega)) ((Bz.mul bS hz1).mono (by unfold bSplit; omega))
end
end Vx
namespace Vx
open PySem PySem.Spec PyProof.Rows L2
local macro_rules | `(tactic| walk_at "cl") => `(tactic| first | rfl | assumption | omega | exact sz_of 0 rfl (by decide) | exact sz_of 1 rfl (by decide) | exact sz_of 2 rfl (by decide) | exact sz_of 3 rfl (by decide) | exact cmulx (by assumption) (by assumption) (by decide) | exact Bz.mono (Bz.mul (by assumption) (by assumption)) (by decide) | decide)
local macro_rules | `(tactic| walk_at "ex") => `(tactic| ((show Exists _); first | apply @Exists.intro V | apply @Exists.intro Int | apply @Exists.intro Addr | apply @Exists.intro (List V) | apply @Exists.intro Nat | apply @Exists.intro Str | apply @Exists.intro Bool | apply @Exists.intro (Option V) | apply @Exists.intro String | apply @Exists.intro Rat | apply @Exists.intro (List Rat)))
local macro_rules | `(tactic| walk_at "rd") => `(tactic| ((repeat (first | (walk_at "ex") | (apply And.intro; (focus (walk_at "cl"))))); (try dsimp only [])))
local macro_rules | `(tactic| walk_at "r0") => `(tactic| (repeat (first | (walk_at "ex") | (apply And.intro; (focus (walk_at "cl"))))))
section
variable {P : Program} {w : World} {K : PySem.W.Frag} {mg : Str → Option Value} {base : Heap}
/-- is_filled_row -/
def spFil (K : PySem.W.Frag) (tb : Addr) : Sp := fun vs H Q _ => ∃ (x : V) (qs : List Rat), vs = [x] ∧ RwT K H x qs ∧ Tr qs ∧ qs ≠ [] ∧ H tb = some (tabX tb) ∧ ∀ H', Same H H' → Q (.bl true) H'
theorem sc_is_filled_row : FnScope ["value"] ["value"] (defScope s_is_filled_row) := ⟨rfl, rfl, rfl, by decide +kernel, rfl, by decide +kernel, by decide +kernel⟩
theorem d_is_filled_row {tb : Addr} (W : FunIn K mg "is_filled_row" s_is_filled_row) (Dis_row : Df P w K mg base "is_row" 2 ["value"] (spIsRow K tb)) : Df P w K mg base "is_filled_row" 3 ["value"] (spFil K tb) := by
  obtain ⟨f, fd, F, hm⟩ := W
  refine ⟨f, fd, F.ok sc_is_filled_row (fun vs H Q E h => ?_) (fun cdv A outer s H vs Q E hr h => ?_), hm, F.kp, F.binds fun _ _ _ _ _ _ us hl => match us, hl with | [_], _ => rfl⟩
  · obtain ⟨x, qs, rfl, _⟩ := h
    rfl
  · obtain ⟨x, qs, rfl, hx, ht, nq, htb, q⟩ := h
    refine ⟨_, (pss_one (ps_ret (pe_and (pe_d Dis_row (hr.mono (by decide)) rfl (pa_cons (pv 0) pa_nil)) (pe_one (pe_cmpR (op_neD (hu64 hr)) (pv 0) (pe_tup pa_nil) (nomark _)))))), ?_⟩
    refine ⟨x, rfl, x, qs, rfl, hx, ht, htb, fun H1 s1 => ?_⟩
    refine ⟨true, rfl, ?_⟩
    rw [if_pos rfl]
    walk_at "rd"
    intro p hp
    have s2 := same_new (o := .tup []) hp
    have e2 : SqT K (upd H1 p (.tup [])) p [] := SqT.of upd_same
    refine rNeD_rw ((hx.mono (same_t s1)).mono (same_t s2)) (rwt_nil e2) ?_
    rw [decide_eq_false nq]
    exact q _ (s1.trans s2)
/-- check_filled_row -/
def spCkFil (K : PySem.W.Frag) (tb : Addr) : Sp := fun vs H Q _ => ∃ (x : V) (qs : List Rat), vs = [x] ∧ RwT K H x qs ∧ Tr qs ∧ qs ≠ [] ∧ H tb = some (tabX tb) ∧ ∀ H', Same H H' → Q .non H'
theorem sc_check_filled_row : FnScope ["given"] ["given"] (defScope s_check_filled_row) := ⟨rfl, rfl, rfl, by decide +kernel, rfl, by decide +kernel, by decide +kernel⟩
theorem d_check_filled_row {tb : Addr} (W : FunIn K mg "check_filled_row" s_check_filled_row) (Dis_filled_row : Df P w K mg base "is_filled_row" 3 ["value"] (spFil K tb)) : Df P w K mg base "check_filled_row" 4 ["given"] (spCkFil K tb) := by
  obtain ⟨f, fd, F, hm⟩ := W
  refine ⟨f, fd, F.ok sc_check_filled_row (fun vs H Q E h => ?_) (fun cdv A outer s H vs Q E hr h => ?_), hm, F.kp, F.binds fun _ _ _ _ _ _ us hl => match us, hl with | [_], _ => rfl⟩
  · obtain ⟨x, qs, rfl, _⟩ := h
    rfl
  · obtain ⟨x, qs, rfl, hx, ht, nq, htb, q⟩ := h
    refine ⟨_, (pss_one (ps_if (pt_not (pt_val (pe_d Dis_filled_row (hr.mono (by decide)) rfl (pa_cons (pv 0) pa_nil)))) (pss_one ps_absurd) pss_nil)), ?_⟩
    refine ⟨x, rfl, x, qs, rfl, hx, ht, nq, htb, fun H1 s1 => ?_⟩
    refine ⟨true, rfl, ?_⟩
    exact q _ s1
/-- parted -/
def spPtd (K : PySem.W.Frag) (tb : Addr) : Sp := fun vs H Q E => ∃ (x y : V) (ps qs : List Rat), vs = [x, y] ∧ RwT K H x ps ∧ RwT K H y qs ∧ Tr ps ∧ Tr qs ∧ qs ≠ [] ∧ H tb = some (tabX tb) ∧ ∀ H', Same H H' → spSplit K [x, y] H' Q E
theorem sc_parted : FnScope ["row", "other"] ["row", "other"] (defScope s_parted) := ⟨rfl, rfl, rfl, by decide +kernel, rfl, by decide +kernel, by decide +kernel⟩
theorem d_parted {tb : Addr} (W : FunIn K mg "parted" s_parted) (Dcheck_row : Df P w K mg base "check_row" 3 ["given"] (spCkRow K tb)) (Dcheck_filled_row : Df P w K mg base "check_filled_row" 4 ["given"] (spCkFil K tb)) (Dsplit_row : Df P w K mg base "split_row" 4 ["row", "other"] (spSplit K)) : Dk P w K mg base "parted" 5 ["row", "other"] "other" "row" (spPtd K tb) := by
  obtain ⟨f, fd, F, hm⟩ := W
  refine ⟨f, fd, F.ok sc_parted (fun vs H Q E h => ?_) (fun cdv A outer s H vs Q E hr h => ?_), hm, F.kp, F.binds fun _ _ _ _ _ _ us hl => match us, hl with | [_, _], _ => rfl, ?_⟩
  · obtain ⟨x, y, ps, qs, rfl, _⟩ := h
    rfl
  · obtain ⟨x, y, ps, qs, rfl, hx, hy, tx, ty, nq, htb, q⟩ := h
    refine ⟨_, (pss_cons (ps_expr (pe_d Dcheck_row (hr.mono (by decide)) rfl (pa_cons (pv 0) pa_nil)))
        (pss_cons (ps_expr (pe_d Dcheck_filled_row (hr.mono (by decide)) rfl (pa_cons (pv 1) pa_nil)))
        (pss_one (ps_ret (pe_d Dsplit_row (hr.mono (by decide)) rfl (pa_cons (pv 0) (pa_cons (pv 1) pa_nil))))))), ?_⟩
    walk_at "rd"
    intro H1 s1
    have hy1 := hy.mono (same_t s1)
    have htb1 := s1 _ _ htb
    walk_at "rd"
    intro H2 s2
    exact ⟨x, rfl, y, rfl, q H2 (s1.trans s2)⟩
  · obtain ⟨oc, od, kV, doc, pm, an, cdv, ct, osl, rfl, lk, hcd⟩ := F.ex
    exact fun s u v => BindsTo.of_eq (by first | rfl | with_unfolding_all rfl)
/-- divides -/
def spDiv (K : PySem.W.Frag) (tb : Addr) : Sp := fun vs H Q _ => ∃ (x y : V) (qs ps : List Rat) (b1 b2 : Nat), vs = [x, y] ∧ RwT K H x qs ∧ RwT K H y ps ∧ Tr qs ∧ Tr ps ∧ qs ≠ [] ∧ H tb = some (tabX tb) ∧ Qs b1 ps ∧ Qs b2 qs ∧ ps.length < 100 ∧ qs.length < 100 ∧ bSplit ps.length b1 qs.length b2 ≤ 8000 ∧
  ∀ (q r : List Rat) H', Same H H' → Tr q → Tr r → (∀ z, ev ps z = ev q z * ev qs z + ev r z) → r.length < qs.length → Q (.bl (decide (r = []))) H'
theorem sc_divides : FnScope ["row", "other"] ["row", "other"] (defScope s_divides) := ⟨rfl, rfl, rfl, by decide +kernel, rfl, by decide +kernel, by decide +kernel⟩
theorem d_divides {tb : Addr} (W : FunIn K mg "divides" s_divides) (Dcheck_row : Df P w K mg base "check_row" 3 ["given"] (spCkRow K tb)) (Dcheck_filled_row : Df P w K mg base "check_filled_row" 4 ["given"] (spCkFil K tb)) (Dsplit_row : Df P w K mg base "split_row" 4 ["row", "other"] (spSplit K)) : Dk P w K mg base "divides" 5 ["row", "other"] "other" "row" (spDiv K tb) := by
  obtain ⟨f, fd, F, hm⟩ := W
  refine ⟨f, fd, F.ok sc_divides (fun vs H Q E h => ?_) (fun cdv A outer s H vs Q E hr h => ?_), hm, F.kp, F.binds fun _ _ _ _ _ _ us hl => match us, hl with | [_, _], _ => rfl, ?_⟩
  · obtain ⟨x, y, qs, ps, b1, b2, rfl, _⟩ := h
    rfl
  · obtain ⟨x, y, qs, ps, b1, b2, rfl, hx, hy, tx, ty, nq, htb, zp, zq, lp, lq, hb, q⟩ := h
    refine ⟨_, (pss_cons (ps_expr (pe_d Dcheck_filled_row (hr.mono (by decide)) rfl (pa_cons (pv 0) pa_nil)))
        (pss_cons (ps_expr (pe_d Dcheck_row (hr.mono (by decide)) rfl (pa_cons (pv 1) pa_nil)))
        (pss_one (ps_ret (pe_cmpR (op_eqD (hu64 hr)) (pe_ix ix_tup (pe_d Dsplit_row (hr.mono (by decide)) rfl (pa_cons (pv 1) (pa_cons (pv 0) pa_nil))) pe_int (fun _ _ => rfl)) (pe_tup pa_nil) (nomark _)))))), ?_⟩
    walk_at "rd"
    intro H1 s1
    have hy1 := hy.mono (same_t s1)
    have htb1 := s1 _ _ htb
    walk_at "rd"
    intro H2 s2
    have hy2 := hy1.mono (same_t s2)
    have hx2 := (hx.mono (same_t s1)).mono (same_t s2)
    refine ⟨y, rfl, x, rfl, y, x, ps, qs, b1, b2, rfl, hy2, hx2, tx, nq, zp, zq, lp, lq, hb, fun t v1 v2 qq r H3 s3 ht h1 h2 tq tr hev hlt _ _ _ _ => ?_⟩
    have hat : atI [v1, v2] 1 = some v2 := rfl
    walk_at "rd"
    intro p hp
    have s4 := same_new (o := .tup []) hp
    have e4 : SqT K (upd H3 p (.tup [])) p [] := SqT.of upd_same
    refine rEqD_rw (h2.mono (same_t s4)) (rwt_nil e4) ?_
    exact q qq r _ (((s1.trans s2).trans s3).trans s4) tq tr hev hlt
  · obtain ⟨oc, od, kV, doc, pm, an, cdv, ct, osl, rfl, lk, hcd⟩ := F.ex
    exact fun s u v => BindsTo.of_eq (by first | rfl | with_unfolding_all rfl)
end
end Vx
namespace Vx
open PySem PySem.Spec PyProof.Rows L2
local macro_rules | `(tactic| walk_at "cl") => `(tactic| first | rfl | assumption | omega | exact sz_of 0 rfl (by decide) | exact sz_of 1 rfl (by decide) | exact sz_of 2 rfl (by decide) | exact sz_of 3 rfl (by decide) | exact cmulx (by assumption) (by assumption) (by decide) | exact Bz.mono (Bz.mul (by assumption) (by assumption)) (by decide) | decide)
local macro_rules | `(tactic| walk_at "ex") => `(tactic| ((show Exists _); first | apply @Exists.intro V | apply @Exists.intro Int | apply @Exists.intro Addr | apply @Exists.intro (List V) | apply @Exists.intro Nat | apply @Exists.intro Str | apply @Exists.intro Bool | apply @Exists.intro (Option V) | apply @Exists.intro String | apply @Exists.intro Rat | apply @Exists.intro (List Rat)))
local macro_rules | `(tactic| walk_at "rd") => `(tactic| ((repeat (first | (walk_at "ex") | (apply And.intro; (focus (walk_at "cl"))))); (try dsimp only [])))
local macro_rules | `(tactic| walk_at "r0") => `(tactic| (repeat (first | (walk_at "ex") | (apply And.intro; (focus (walk_at "cl"))))))
section
variable {P : Program} {w : World} {K : PySem.W.Frag} {mg : Str → Option Value} {base : Heap}
/-- _law_is_whole -/
def spLWhole (K : PySem.W.Frag) : Sp := fun vs H Q _ => ∃ i : Int, vs = [.int i] ∧ Q (.bl true) H
theorem sc__law_is_whole : FnScope ["value"] ["value"] (defScope s__law_is_whole) := ⟨rfl, rfl, rfl, by decide +kernel, rfl, by decide +kernel, by decide +kernel⟩
theorem d__law_is_whole (W : FunIn K mg "_law_is_whole" s__law_is_whole) (T : Blt mg) (nb : mg "bool" = none) : Df P w K mg base "_law_is_whole" 1 ["value"] (spLWhole K) := by
  obtain ⟨f, fd, F, hm⟩ := W
  refine ⟨f, fd, F.ok sc__law_is_whole (fun vs H Q E h => ?_) (fun cdv A outer s H vs Q E hr h => ?_), hm, F.kp, F.binds fun _ _ _ _ _ _ us hl => match us, hl with | [_], _ => rfl⟩
  · obtain ⟨i, rfl, _⟩ := h
    rfl
  · obtain ⟨i, rfl, q⟩ := h
    refine ⟨_, (pss_one (ps_ret (pe_and (pe_callB call_isiInt (by rfl) T.n_isinstance (by decide +kernel) (pa_cons (pv 0) (pa_cons (pe_bltn (by rfl) T.n_int (by rfl) (v := .ty "int") rfl) pa_nil))) (pe_one (pe_not (pe_callB call_isiBool (by rfl) T.n_isinstance (by decide +kernel) (pa_cons (pv 0) (pa_cons (pe_bltn (by rfl) nb (by rfl) (v := .ty "bool") rfl) pa_nil)))))))), ?_⟩
    walk_at "rd"
    exact q
/-- _law_is_fraction -/
def spLIsFr (K : PySem.W.Frag) : Sp := fun vs H Q _ => ∃ (x : V) (q : Rat), vs = [x] ∧ FrT K H x q ∧ Qz 3900 q ∧ ∀ H', Same H H' → Q (.bl true) H'
theorem sc__law_is_fraction : FnScope ["value"] ["value"] (defScope s__law_is_fraction) := ⟨rfl, rfl, rfl, by decide +kernel, rfl, by decide +kernel, by decide +kernel⟩
theorem d__law_is_fraction (W : FunIn K mg "_law_is_fraction" s__law_is_fraction) (T : Blt mg) (D_law_is_whole : Df P w K mg base "_law_is_whole" 1 ["value"] (spLWhole K)) (D_law_lowest : Df P w K mg base "_law_lowest" 1 ["n", "m"] (spLow K)) : Df P w K mg base "_law_is_fraction" 2 ["value"] (spLIsFr K) := by
  obtain ⟨f, fd, F, hm⟩ := W
  refine ⟨f, fd, F.ok sc__law_is_fraction (fun vs H Q E h => ?_) (fun cdv A outer s H vs Q E hr h => ?_), hm, F.kp, F.binds fun _ _ _ _ _ _ us hl => match us, hl with | [_], _ => rfl⟩
  · obtain ⟨x, q, rfl, _⟩ := h
    rfl
  · obtain ⟨x, r, rfl, ⟨a, rfl, ha⟩, zr, q⟩ := h
    refine ⟨_, (pss_cons (ps_if (PW.pt (pw_or (pt_not (pt_val (pe_callB call_isiTup (by rfl) T.n_isinstance (by decide +kernel) (pa_cons (pv 0) (pa_cons (pe_bltn (by rfl) T.n_tuple (by rfl) (v := .ty "tuple") rfl) pa_nil))))) (pw_or (pt_cmpR op_ne (pe_callB call_len_seq (by rfl) T.n_len (by decide +kernel) (pa_cons (pv 0) pa_nil)) pe_int (nomark _)) (pw_or (pt_not (pt_val (pe_d D_law_is_whole (hr.mono (by decide)) rfl (pa_cons (pe_ix ix_tup (pv 0) pe_int (fun _ _ => rfl)) pa_nil)))) (pw_or1 (pt_not (pt_val (pe_d D_law_is_whole (hr.mono (by decide)) rfl (pa_cons (pe_ix ix_tup (pv 0) pe_int (fun _ _ => rfl)) pa_nil))))))))) (pss_one (ps_ret pe_bl)) pss_nil)
        (pss_one (ps_ret (pe_and (pe_cmpR op_gt (pe_ix ix_tup (pv 0) pe_int (fun _ _ => rfl)) pe_int (nomark _)) (pe_one (pe_cmpR (op_eqD (hu64 hr)) (pe_d D_law_lowest (hr.mono (by decide)) rfl (pa_cons (pe_ix ix_tup (pv 0) pe_int (fun _ _ => rfl)) (pa_cons (pe_ix ix_tup (pv 0) pe_int (fun _ _ => rfl)) pa_nil))) (pv 0) (nomark _))))))), ?_⟩
    have hd : (0 : Int) < (r.den : Int) := by have := r.den_pos; omega
    have hdz : Bz 8000 (r.den : Int) := zr.dd.mono (by decide)
    have fin : ∀ v H', Same H H' → FrT K H' v (Rat.divInt r.num r.den) → rEqD K v (.ref a) H' Q := fun v H' s1 hv => by
      refine rEqD_fr hv ⟨a, rfl, same_seqT s1 ha⟩ ?_
      rw [decide_eq_true (Rat.num_divInt_den r)]
      exact q H' s1
    have ha' : SqL K H a [.int r.num, .int (r.den : Int)] ∨ SqT K H a [.int r.num, .int (r.den : Int)] := Or.inr ha
    walk_at "rd"
    rw [decide_eq_true hd, if_pos rfl]
    walk_at "rd"
    intro v H' s1 hv
    exact ⟨_, rfl, fin v H' s1 hv⟩
/-- _law_is_row -/
def spLIsRow (K : PySem.W.Frag) : Sp := fun vs H Q _ => ∃ (x : V) (qs : List Rat), vs = [x] ∧ RwT K H x qs ∧ Tr qs ∧ Qs 3900 qs ∧ qs.length < 1000 ∧ ∀ H', Same H H' → Q (.bl true) H'
theorem sc__law_is_row : FnScope ["value", "each"] ["value"] (defScope s__law_is_row) := ⟨rfl, rfl, rfl, by decide +kernel, rfl, by decide +kernel, by decide +kernel⟩
theorem d__law_is_row (W : FunIn K mg "_law_is_row" s__law_is_row) (T : Blt mg) (D_law_is_fraction : Df P w K mg base "_law_is_fraction" 2 ["value"] (spLIsFr K)) : Df P w K mg base "_law_is_row" 3 ["value"] (spLIsRow K) := by
  obtain ⟨f, fd, F, hm⟩ := W
  refine ⟨f, fd, F.ok sc__law_is_row (fun vs H Q E h => ?_) (fun cdv A outer s H vs Q E hr h => ?_), hm, F.kp, F.binds fun _ _ _ _ _ _ us hl => match us, hl with | [_], _ => rfl⟩
  · obtain ⟨x, qs, rfl, _⟩ := h
    rfl
  · obtain ⟨x, qs, rfl, ⟨a, us, rfl, ha, hA⟩, ht, zq, lq, q⟩ := h
    have nd := sc__law_is_row.nd
    have hL := hA.length
    have hrow : RwT K H (.ref a) qs := ⟨a, us, rfl, ha, hA⟩
    have ha' : SqL K H a us ∨ SqT K H a us := Or.inr ha
    refine ⟨_, (pss_cons (ps_if (PW.pt (pw_or (pt_not (pt_val (pe_callB call_isiTup (by rfl) T.n_isinstance (by decide +kernel) (pa_cons (pv 0) (pa_cons (pe_bltn (by rfl) T.n_tuple (by rfl) (v := .ty "tuple") rfl) pa_nil))))) (pw_or1 (pt_cmpR (op_neD (hu64 hr)) (pe_lc (own := [("each", 1)]) rfl nd (pi_tup (pv 0)) (blkOk_by (own := [("each", 1)]) (N := ["value", "each"]) (sc := defScope s__law_is_row) (by decide +kernel)) (fun _ _ _ _ _ => (pg_name (i := 1) nd rfl (Or.inl rfl) (Or.inr rfl))) (fun _ _ _ _ _ => (pts_one (pt_not (pt_val (pe_d D_law_is_fraction (hr.mono (by decide)) rfl (pa_cons (pv 1) pa_nil)))))) (fun _ _ _ _ _ => (pv 1))) (pe_lst pa_nil) (nomark _))))) (pss_one (ps_ret pe_bl)) pss_nil)
        (pss_one (ps_ret (pe_or (pe_cmpR (op_eqD (hu64 hr)) (pv 0) (pe_tup pa_nil) (nomark _)) (pe_one (pe_cmpR op_ne (pe_ix ix_tup (pe_ix ix_tup (pv 0) (pe_op op_sub (pe_callB call_len_seq (by rfl) T.n_len (by decide +kernel) (pa_cons (pv 0) pa_nil)) pe_int) (fun _ _ => rfl)) pe_int (fun _ _ => rfl)) pe_int (nomark _))))))), ?_⟩
    walk_at "rd"
    refine ⟨⟨us, ha⟩, fun D hD => lc_it (walk_tup (K := K) (a := a) (xs := us)) (fun i H1 => Same H H1 ∧ H1 D = some (.lst [])) ⟨same_new hD, upd_same⟩ (fun i H1 _ p => same_seqT p.1 ha) ?_ ?_⟩
    · rintro i u H1 H2 hi ⟨s1, e1⟩ ⟨rfl, hu⟩
      obtain ⟨r, hr1, hfr⟩ := hA.get hu
      have hfr1 := hfr.mono (same_t s1)
      have zr := zq r (List.mem_of_getElem? hr1)
      walk_at "rd"
      exact fun H3 s3 => ⟨true, rfl, s1.trans s3, s3 _ _ e1⟩
    rintro H1 ⟨s1, e1⟩
    walk_at "rd"
    intro p hp
    have s2 := same_new (o := .lst []) hp
    have e2 : upd H1 p (.lst []) p = some (.lst []) := upd_same
    have e3 := s2 _ _ e1
    have s3 := s1.trans s2
    generalize upd H1 p (.lst []) = H2 at s2 e2 e3 s3
    refine ⟨.list [], .list [], Dp.lst (SqL.of e3) .nil, Dp.lst (SqL.of e2) .nil, rfl, rfl, false, rfl, ?_⟩
    rw [if_neg (by decide)]
    walk_at "rd"
    intro p2 hp2
    have s4 := same_new (o := .tup []) hp2
    have e4 : SqT K (upd H2 p2 (.tup [])) p2 [] := SqT.of upd_same
    have s5 := s3.trans s4
    generalize upd H2 p2 (.tup []) = H3 at s4 e4 s5
    refine rEqD_rw (hrow.mono (same_t s5)) (rwt_nil e4) ⟨_, rfl, ?_⟩
    refine tif (fun hq => q H3 s5) (fun hq => ?_)
    obtain ⟨r, hr1⟩ : ∃ r, qs[qs.length - 1]? = some r := ⟨_, List.getElem?_eq_getElem (by have := List.length_pos_iff.mpr hq; omega)⟩
    obtain ⟨u, hu, hfr⟩ := hA.get' hr1
    have hpos : 0 < qs.length := List.length_pos_iff.mpr hq
    have hr0 : r ≠ 0 := by
      have h1 := ht hq
      rw [List.getLast_eq_getElem] at h1
      rw [List.getElem?_eq_getElem (by omega)] at hr1
      rw [← Option.some.inj hr1]
      exact h1
    have hat : atI us ((us.length : Int) - 1) = some u := by
      have : ((us.length : Int) - 1) = ((us.length - 1 : Nat) : Int) := by omega
      rw [this]
      exact atI_nat (by rw [hL]; exact hu)
    have ha3 := same_seqT s5 ha
    have ha3' : SqL K H3 a us ∨ SqT K H3 a us := Or.inr ha3
    obtain ⟨e, rfl, he⟩ := hfr.mono (same_t s5)
    walk_at "rd"
    rw [decide_eq_false (fun z => hr0 (Rat.num_eq_zero.mp (V.int.inj z)))]
    exact q H3 s5
/-- _law_divisor_row -/
def spDvr (K : PySem.W.Frag) : Sp := fun vs H Q _ => ∃ (a : Addr) (m : Nat), vs = [.ref a, .int (m : Int)] ∧ RlAt a H ∧ 0 < m ∧ m < 100 ∧ ∀ v r H', RlAt a H' → But a H H' → RwT K H' v r → Tr r → r ≠ [] → Qs 4 r → r.length ≤ m → Q v H'
theorem sc__law_divisor_row : FnScope ["reel", "most", "found"] ["reel", "most"] (defScope s__law_divisor_row) := ⟨rfl, rfl, rfl, by decide +kernel, rfl, by decide +kernel, by decide +kernel⟩
theorem d__law_divisor_row (W : FunIn K mg "_law_divisor_row" s__law_divisor_row) (D_law_drawn : Df P w K mg base "_law_drawn" 4 ["reel", "most"] (spDrawn K)) (D_law_some : Df P w K mg base "_law_some" 3 ["reel"] (spSome K)) : Df P w K mg base "_law_divisor_row" 5 ["reel", "most"] (spDvr K) := by
  obtain ⟨f, fd, F, hm⟩ := W
  refine ⟨f, fd, F.ok sc__law_divisor_row (fun vs H Q E h => ?_) (fun cdv A outer s H vs Q E hr h => ?_), hm, F.kp, F.binds fun _ _ _ _ _ _ us hl => match us, hl with | [_, _], _ => rfl⟩
  · obtain ⟨a, m, rfl, _⟩ := h
    rfl
  · obtain ⟨a, m, rfl, hR, hm0, hm1, q⟩ := h
    have nd := sc__law_divisor_row.nd
    refine ⟨_, (pss_cons (ps_set (i := 2) nd rfl (Or.inl rfl) (pe_d D_law_drawn (hr.mono (by decide)) rfl (pa_cons (pv 0) (pa_cons (pv 1) pa_nil))))
        (pss_one (ps_ret (pe_ifExp (pt_cmpR (op_neD (hu64 hr)) (pv 2) (pe_tup pa_nil) (nomark _)) (pv 2) (pe_tup (pa_cons (pe_d D_law_some (hr.mono (by decide)) rfl (pa_cons (pv 0) pa_nil)) pa_nil)))))), ?_⟩
    refine ⟨V.ref a, rfl, _, rfl, a, m, rfl, hR, hm1, fun v r H1 hR1 b1 hv ht hq hl => ?_⟩
    have st1 := but_samet hR b1
    walk_at "rd"
    intro p hp
    have s2 := same_new (o := .tup []) hp
    have e2 : SqT K (upd H1 p (.tup [])) p [] := SqT.of upd_same
    have hR2 := same_rl hR1 s2
    generalize upd H1 p (.tup []) = H2 at s2 e2 hR2
    refine rNeD_rw (hv.mono (same_t s2)) (rwt_nil e2) ?_
    by_cases hz : r = []
    · refine ⟨false, by rw [decide_eq_true hz]; rfl, ?_⟩
      rw [if_neg (by decide)]
      refine ⟨V.ref a, rfl, a, rfl, hR2, fun v2 q2 H3 hR3 b3 hv2 hz2 hn2 => ?_⟩
      walk_at "rd"
      intro p3 hp3
      have s4 := same_new (o := .tup [v2]) hp3
      refine q _ [q2] _ (same_rl hR3 s4) (but_trans (but_trans (but_trans b1 (same_but a s2)) b3) (same_but a s4)) ⟨p3, [v2], rfl, SqT.of upd_same, .cons (hv2.mono (same_t s4)) .nil⟩ (fun _ => hn2) (List.cons_ne_nil _ _) (fun c hc => ?_) (by show 1 ≤ m; omega)
      rw [List.mem_singleton.mp hc]
      exact hz2
    · refine ⟨true, by rw [decide_eq_false hz]; rfl, ?_⟩
      rw [if_pos rfl]
      exact ⟨_, rfl, q v r H2 hR2 (but_trans b1 (same_but a s2)) (hv.mono (same_t s2)) ht hz hq hl⟩
end
end Vx
namespace Vx
open PySem PySem.Spec PyProof.Rows L2
structure Sz (d : PyData) (n k : Nat) : Prop where
  sh : d.showable = true
  de : d.depth ≤ k
  c : cost d ≤ n
structure SzA (ds : List PyData) (n k : Nat) : Prop where
  sh : PyData.showableAll ds = true
  de : PyData.depthAll ds ≤ k
  c : costs ds ≤ n
theorem SzA.nil : SzA [] 0 0 := ⟨rfl, by simp [PyData.depthAll], Nat.le_refl _⟩
theorem Sz.cons {d : PyData} {ds : List PyData} {n k m j : Nat} (h : Sz d n k) (t : SzA ds m j) : SzA (d :: ds) (n + 2 + m) (max k j) := by
  refine ⟨?_, ?_, ?_⟩
  · simp only [PyData.showableAll, h.sh, t.sh, Bool.and_self]
  · simp only [PyData.depthAll]
    have := h.de
    have := t.de
    omega
  · show cost d + 2 + costs ds ≤ _
    have := h.c
    have := t.c
    omega
theorem SzA.lst {ds : List PyData} {n k : Nat} (h : SzA ds n k) : Sz (.list ds) (n + 2) (k + 1) := by
  refine ⟨by simpa [PyData.showable] using h.sh, ?_, ?_⟩
  · have := h.de
    simp only [PyData.depth]
    omega
  · show costs ds + 2 ≤ _
    have := h.c
    omega
theorem SzA.tup {ds : List PyData} {n k : Nat} (h : SzA ds n k) : Sz (.tuple ds) (n + 3) (k + 1) := by
  refine ⟨by simpa [PyData.showable] using h.sh, ?_, ?_⟩
  · have := h.de
    simp only [PyData.depth]
    omega
  · show costs ds + 3 ≤ _
    have := h.c
    omega
theorem Sz.ok {d : PyData} {n k : Nat} (h : Sz d n k) (hk : k < 60) (hn : n ≤ 16000000) : Okd d := ⟨h.sh, Nat.lt_of_le_of_lt h.de hk, Nat.le_trans h.c hn⟩
theorem sz_rw {r : List Rat} (h : Qs 1900 r) (hl : r.length ≤ 60) : Sz (dRw r) 231200 3 := by
  refine ⟨?_, ?_, ?_⟩
  · unfold dRw
    simpa [PyData.showable] using showA_rw r h
  · have := depth_rw r
    unfold dRw
    simp only [PyData.depth]
    omega
  · show costs (r.map dFr) + 3 ≤ _
    rw [costs_fr]
    omega
theorem sz_fr {q : Rat} (h : Qz 1900 q) : Sz (dFr q) 3851 2 := by
  refine ⟨?_, ?_, Nat.le_refl _⟩
  · have := showA_rw [q] (fun c hc => by rw [List.mem_singleton.mp hc]; exact h)
    simpa [PyData.showableAll] using this
  · unfold dFr
    simp [PyData.depth, PyData.depthAll]
theorem sz_bl (b : Bool) : Sz (.bool b) 5 1 := ⟨by simp [PyData.showable], by simp [PyData.depth], Nat.le_refl _⟩
/-- two ways, one end -/
theorem if_join {c : Prop} [Decidable c] {tA tB : TE} {σ : L2.St} {H : Hp} {Qc : VK} (R : V → Hp → Prop) (hA : c → ∀ Q : VK, (∀ v H', R v H' → Q v H') → tA σ H Q) (hB : ¬ c → ∀ Q : VK, (∀ v H', R v H' → Q v H') → tB σ H Q)
    (k : ∀ v H', R v H' → Qc v H') : if decide c = true then tA σ H Qc else tB σ H Qc := tif (fun h => hA h Qc k) fun h => hB h Qc k
theorem ev_nil (z : Rat) : ev [] z = 0 := rfl
/-- what is a product with d leaves no rest -/
theorem div_zero' {d q r a : List Rat} (hd : Tr d) (hnd : d ≠ []) (hq : Tr q) (hr : Tr r) (hl : r.length < d.length) (h : ∀ z, ev q z * ev d z + ev r z = ev a z * ev d z) : r = [] := by
  obtain ⟨t, h1, _, h3⟩ := trim_ex a
  refine (div_unique hd hnd hq h1 hr tr_nil hl (List.length_pos_iff.mpr hnd) fun z => ?_).2
  rw [h, h3, ev_nil]
  grind
theorem prod_ne {a b r : List Rat} (ha : Tr a) (hb : Tr b) (hna : a ≠ []) (hnb : b ≠ []) (hr : Tr r) (h : ∀ z, ev r z = ev a z * ev b z) : r ≠ [] := fun e => by
  have e2 : pmul a b = r := ev_inj (tr_pmul ha hb hna hnb) hr fun z => by rw [ev_pmul, h]
  have l := (pmul_shape a b hna hnb).1
  have l1 := List.length_pos_iff.mpr hna
  have l2 := List.length_pos_iff.mpr hnb
  rw [e2, e, List.length_nil] at l
  omega
theorem tr_dropZ {qs : List Rat} {m : Nat} : (qs.take m).length ≤ qs.length := by
  rw [List.length_take]
  omega
end Vx
namespace Vx
open PySem PySem.Spec PyProof.Rows L2
theorem rep_q {k : Nat} {xs ys : List V} {p : Addr} {H : Hp} {Q : VK} {y : V} (hy : y = .int (k : Int)) (h : H p = some (.lst xs)) (hk : k ≤ 1000) (hl : xs.length ≤ 100) (e : (List.replicate k xs).flatten = ys) (q : ∀ q0, H q0 = none → Q (.ref q0) (upd H q0 (.lst ys))) : rRep (.ref p) y H Q := by
  subst e hy
  refine ⟨p, k, xs, rfl, rfl, h, by omega, by omega, ?_, fun q0 h0 => ?_⟩
  · rw [Int.toNat_natCast, sizeLine_eq]
    have : xs.length * k ≤ 100 * 1000 := Nat.mul_le_mul hl hk
    omega
  · rw [Int.toNat_natCast]
    exact q q0 h0
end Vx
namespace Vx
open PySem PySem.Spec PyProof.Rows L2
theorem rep_qc {k : Nat} {xs ys : List V} {p : Addr} {H : Hp} {Q : VK} {y : V} {σ : L2.St} (hy : y = .int (k : Int)) (h : H p = some (.lst xs)) (hk : k ≤ 1000) (hl : xs.length ≤ 100) (e : (List.replicate k xs).flatten = ys) (q : ∀ q0, H q0 = none → Q (.ref q0) (upd H q0 (.lst ys))) : tC y σ H fun y H2 => rRep (.ref p) y H2 Q := rep_q hy h hk hl e q
end Vx
namespace Vx
open PySem PySem.Spec PyProof.Rows L2
/-- a statement, then the rest: what is known between them -/
theorem seq_cut {S T : TS} {D : Ends} {σ : L2.St} {H : Hp} (R : L2.St → Hp → Prop) (h1 : ∀ nx : L2.St → Hp → Prop, (∀ σ' H', R σ' H' → nx σ' H') → S { D with nx := nx } σ H)
    (h2 : ∀ σ' H', R σ' H' → T D σ' H') : tSeq S T D σ H := h1 _ h2
end Vx
namespace Vx
open PySem PySem.Spec PyProof.Rows L2
theorem if_no {c : Prop} [Decidable c] {A B : Prop} (h : ¬ c) (q : B) : if decide c = true then A else B := by
  rw [decide_eq_false h, if_neg Bool.false_ne_true]
  exact q
theorem if_yes {c : Prop} [Decidable c] {A B : Prop} (h : c) (q : A) : if decide c = true then A else B := by
  rw [decide_eq_true h, if_pos rfl]
  exact q
end Vx
namespace Vx
open PySem PySem.Spec PyProof.Rows L2
theorem not_dec {c : Prop} [Decidable c] (h : c) : (!decide c) = false := by
  rw [decide_eq_true h]
  rfl
theorem notb {b : Bool} (h : b = true) : (!decide (b = true)) = false := by
  subst h
  rfl
theorem if_ff {A B : Prop} (q : B) : if false = true then A else B := q
theorem ev_one (z : Rat) : ev [1] z = 1 := by
  show (1 : Rat) + z * 0 = 1
  grind
theorem qs_ladd {b : Nat} : ∀ {p q : List Rat} {a : Nat}, Qs a p → Qs b q → Qs (a + b + 1) (ladd p q)
  | [], q, a, _, h => by
    show Qs (a + b + 1) q
    exact h.mono (by omega)
  | x :: p, [], a, h, _ => by
    show Qs (a + b + 1) (x :: p)
    exact h.mono (by omega)
  | x :: p, y :: q, a, h, k => by
    intro c hc
    rcases List.mem_cons.mp hc with rfl | hc
    · exact Qz.add (h x List.mem_cons_self) (k y List.mem_cons_self)
    · exact qs_ladd (fun c h' => h c (List.mem_cons_of_mem _ h')) (fun c h' => k c (List.mem_cons_of_mem _ h')) c hc
theorem qs_smul {a b : Nat} {x : Rat} {q : List Rat} (h : Qz a x) (k : Qs b q) : Qs (a + b) (q.map (x * ·)) := fun c hc => by
  obtain ⟨y, hy, rfl⟩ := List.mem_map.mp hc
  exact Qz.mul h (k y hy)
theorem qs_pmul {a b : Nat} : ∀ {p q : List Rat}, Qs a p → Qs b q → Qs (p.length * (a + b + 1)) (pmul p q)
  | [], q, _, _ => fun c hc => by cases hc
  | [x], q, h, k => by
    show Qs _ (q.map (x * ·))
    exact (qs_smul (h x List.mem_cons_self) k).mono (by simp)
  | x :: y :: p, q, h, k => by
    show Qs _ (ladd (q.map (x * ·)) (0 :: pmul (y :: p) q))
    have ih := qs_pmul (p := y :: p) (fun c h' => h c (List.mem_cons_of_mem _ h')) k
    have e : (x :: y :: p).length * (a + b + 1) = (a + b) + (y :: p).length * (a + b + 1) + 1 := by
      rw [List.length_cons, Nat.add_mul, Nat.one_mul]
      omega
    have hp : 0 < (y :: p).length * (a + b + 1) := Nat.mul_pos (by simp) (by omega)
    rw [e]
    refine qs_ladd (qs_smul (h x List.mem_cons_self) k) fun c hc => ?_
    rcases List.mem_cons.mp hc with rfl | hc
    · exact qz0 hp
    · exact ih c hc
theorem ev_nil_of {a b r : List Rat} (hr : Tr r) (h : ∀ z, ev r z = ev a z * ev b z) (e : a = [] ∨ b = []) : r = [] := ev_inj hr tr_nil fun z => by
  rw [h]
  rcases e with rfl | rfl
  · show (0 : Rat) * _ = 0
    grind
  · show _ * (0 : Rat) = 0
    grind
theorem prod_is {a b r : List Rat} (ha : Tr a) (hb : Tr b) (hr : Tr r) (h : ∀ z, ev r z = ev a z * ev b z) (na : a ≠ []) (nb : b ≠ []) : r = pmul a b := ev_inj hr (tr_pmul ha hb na nb) fun z => by rw [h, ev_pmul]
theorem prod_len {a b r : List Rat} (ha : Tr a) (hb : Tr b) (hr : Tr r) (h : ∀ z, ev r z = ev a z * ev b z) {n m : Nat} (hn : a.length ≤ n) (hm : b.length ≤ m) : r.length ≤ n + m - 1 := by
  by_cases e : a = [] ∨ b = []
  · rw [ev_nil_of hr h e]
    exact Nat.zero_le _
  · rw [prod_is ha hb hr h (fun z => e (.inl z)) fun z => e (.inr z)]
    have := (pmul_shape a b (fun z => e (.inl z)) fun z => e (.inr z)).1
    omega
theorem prod_qs {a b r : List Rat} (ha : Tr a) (hb : Tr b) (hr : Tr r) (h : ∀ z, ev r z = ev a z * ev b z) {n c d : Nat} (hc : Qs c a) (hd : Qs d b) (hn : a.length ≤ n) : Qs (n * (c + d + 1)) r := by
  by_cases e : a = [] ∨ b = []
  · rw [ev_nil_of hr h e]
    exact fun _ h => by cases h
  · rw [prod_is ha hb hr h (fun z => e (.inl z)) fun z => e (.inr z)]
    exact (qs_pmul hc hd).mono (Nat.mul_le_mul_right _ hn)
end Vx
namespace Vx
open PySem PySem.Spec PyProof.Rows L2
theorem rSlA_takeW {K : PySem.W.Frag} {H : Hp} {x : V} {qs : List Rat} {m : Nat} {Q : VK} (h : RwT K H x qs) (q : ∀ v H', Same H H' → RwT K H' v (qs.take m) → Q v H') : rSlA K x none (some (m : Int)) H Q := by
  by_cases hm : m ≤ qs.length
  · exact rSlA_take h hm q
  obtain ⟨a, us, rfl, ha, hA⟩ := h
  have hL := hA.length
  refine ⟨a, us, rfl, ha, fun hw => ?_, fun hw p hp => ?_⟩
  · rw [List.take_of_length_le (show qs.length ≤ m by omega)] at q
    exact q _ H (Same.refl _) ⟨a, us, rfl, ha, hA⟩
  · refine absurd ⟨?_, ?_⟩ hw
    · rfl
    · rw [HT.sIx_nat, Nat.min_eq_right (by omega)]
end Vx
namespace Vx
open PySem PySem.Spec PyProof.Rows L2
local macro_rules | `(tactic| walk_at "cl") => `(tactic| first | rfl | assumption | omega | exact sz_of 0 rfl (by decide) | exact sz_of 1 rfl (by decide) | exact sz_of 2 rfl (by decide) | exact sz_of 3 rfl (by decide) | exact cmulx (by assumption) (by assumption) (by decide) | exact Bz.mono (Bz.mul (by assumption) (by assumption)) (by decide) | decide)
local macro_rules | `(tactic| walk_at "ex") => `(tactic| ((show Exists _); first | apply @Exists.intro V | apply @Exists.intro Int | apply @Exists.intro Addr | apply @Exists.intro (List V) | apply @Exists.intro Nat | apply @Exists.intro Str | apply @Exists.intro Bool | apply @Exists.intro (Option V) | apply @Exists.intro String | apply @Exists.intro Rat | apply @Exists.intro (List Rat)))
local macro_rules | `(tactic| walk_at "rd") => `(tactic| ((repeat (first | (walk_at "ex") | (apply And.intro; (focus (walk_at "cl"))))); (try dsimp only [])))
local macro_rules | `(tactic| walk_at "r0") => `(tactic| (repeat (first | (walk_at "ex") | (apply And.intro; (focus (walk_at "cl"))))))
section
variable {P : Program} {w : World} {K : PySem.W.Frag} {mg : Str → Option Value} {base : Heap}
theorem bSplit_le {l1 b1 l2 b2 n1 n2 B : Nat} (h1 : l1 ≤ n1) (h2 : l2 ≤ n2) (h : bSplit n1 b1 n2 b2 ≤ B) : bSplit l1 b1 l2 b2 ≤ B := by
  refine Nat.le_trans ?_ h
  unfold bSplit
  have a := fold_le (a := b1) (show l1 + 1 ≤ n1 + 1 by omega)
  have b := fold_le (a := b2) (show l2 + 1 ≤ n2 + 1 by omega)
  have c : l1 * ((l2 + 1) * b2 + 2) ≤ n1 * ((n2 + 1) * b2 + 2) := Nat.mul_le_mul h1 (by omega)
  omega
def spRight (tb : Addr) : Sp := fun vs H Q _ => ∃ (a : Addr), vs = [.ref a] ∧ RlAt a H ∧ H tb = some (tabX tb) ∧ ∀ H', But a H H' → Q (.bl true) H'
theorem sc__law_right : FnScope ["reel", "two", "quotient", "rest", "one", "due", "other", "told", "more"] ["reel"] (defScope s__law_right) := ⟨rfl, rfl, rfl, by decide +kernel, rfl, by decide +kernel, by decide +kernel⟩
theorem d__law_right {tb : Addr} (W : FunIn K mg "_law_right" s__law_right) (T : Blt mg) (sy : Sys base) (D_law_divisor_row : Df P w K mg base "_law_divisor_row" 5 ["reel", "most"] (spDvr K)) (D_law_drawn : Df P w K mg base "_law_drawn" 4 ["reel", "most"] (spDrawn K)) (D_law_pull : Df P w K mg base "_law_pull" 1 ["reel", "many"] (spPull)) (D_law_trim : Df P w K mg base "_law_trim" 1 ["numbers"] (spTrimT K)) (D_law_sum : Df P w K mg base "_law_sum" 3 ["one", "two"] (spRows K (fun p q => p + q))) (D_law_product : Df P w K mg base "_law_product" 3 ["one", "two"] (spProd K)) (D_law_is_row : Df P w K mg base "_law_is_row" 3 ["value"] (spLIsRow K)) (Krow_sum : Dk P w K mg base "row_sum" 4 ["row", "other"] "other" "row" (spCk K tb (spRows K (fun p q => p + q)))) (Krow_less : Dk P w K mg base "row_less" 4 ["row", "other"] "other" "row" (spCk K tb (spRows K (fun p q => p - q)))) (Krow_product : Dk P w K mg base "row_product" 5 ["row", "other"] "other" "row" (spCk K tb (spTimes K))) (Kparted : Dk P w K mg base "parted" 5 ["row", "other"] "other" "row" (spPtd K tb)) (Kdivides : Dk P w K mg base "divides" 5 ["row", "other"] "other" "row" (spDiv K tb)) : Dg P w K mg base "_law_right" 6 ["reel"] (spRight tb) := by
  have Drow_sum := Krow_sum.df
  have Drow_less := Krow_less.df
  have Drow_product := Krow_product.df
  have Dparted := Kparted.df
  have Ddivides := Kdivides.df
  obtain ⟨f, fd, F, hm⟩ := W
  refine ⟨f, fd, gok F sc__law_right (fun vs H Q E h => ?_) (fun cdv A outer s H vs Q E ng hr h => ?_), hm, F.kp, F.binds fun _ _ _ _ _ _ us hl => match us, hl with | [_], _ => rfl⟩
  · obtain ⟨a, rfl, _⟩ := h
    rfl
  · obtain ⟨a, rfl, hR, htb, q⟩ := h
    have nd := sc__law_right.nd
    obtain ⟨T2, h2, key⟩ : ∃ T, PSs (cxOf CX0 P w K mg base ["reel", "two", "quotient", "rest", "one", "due", "other", "told", "more"] "_law_right" (defScope s__law_right) f cdv A outer s H E).nox ((defBody s__law_right).drop 2) T ∧
        ∀ (v1 v2 v3 : V) (r1 r2 r3 : List Rat) (H1 : Hp), RlAt a H1 → But a H H1 → H1 tb = some (tabX tb) → RwT K H1 v1 r1 → RwT K H1 v2 r2 → RwT K H1 v3 r3 → Tr r1 → Tr r2 → Tr r3 → r1 ≠ [] → Qs 4 r1 → Qs 4 r2 → Qs 4 r3 → r1.length ≤ 4 → r2.length ≤ 4 → r3.length ≤ 3 → r3.length < r1.length →
          T { nx := fun _ H' => Q .non H', rt := Q } [some (V.ref a), some v1, some v2, some v3, none, none, none, none, none] H1 := by
      refine ⟨_, (pss_cons (ps_set (i := 4) nd rfl (Or.inl rfl) (pe_d D_law_sum (hr.mono (by decide)) rfl (pa_cons (pe_d D_law_product (hr.mono (by decide)) rfl (pa_cons (pv 2) (pa_cons (pv 1) pa_nil))) (pa_cons (pv 3) pa_nil))))
        (pss_cons (ps_set (i := 5) nd rfl (Or.inl rfl) (pe_tup (pa_cons (pv 2) (pa_cons (pv 3) pa_nil))))
        (pss_cons (ps_if (pt_cmpR op_ne (pe_callB (call_repr sy ng (hu64 hr)) (by rfl) T.n_repr (by decide +kernel) (pa_cons (pe_lst (pa_cons (pe_d Dparted (hr.mono (by decide)) rfl (pa_cons (pv 4) (pa_cons (pv 1) pa_nil))) (pa_cons (pe_kw2 Kparted (hr.mono (by decide)) rfl (pk_cons (pv 1) (pk_cons (pv 4) pk_nil))) pa_nil))) pa_nil)) (pe_callB (call_repr sy ng (hu64 hr)) (by rfl) T.n_repr (by decide +kernel) (pa_cons (pe_lst (pa_cons (pv 5) (pa_cons (pv 5) pa_nil))) pa_nil)) (nomark _)) (pss_one (ps_ret pe_bl)) pss_nil)
        (pss_cons (ps_if (pt_cmpR op_ne (pe_callB (call_repr sy ng (hu64 hr)) (by rfl) T.n_repr (by decide +kernel) (pa_cons (pe_lst (pa_cons (pe_d Ddivides (hr.mono (by decide)) rfl (pa_cons (pv 1) (pa_cons (pv 4) pa_nil))) (pa_cons (pe_kw2 Kdivides (hr.mono (by decide)) rfl (pk_cons (pv 4) (pk_cons (pv 1) pk_nil))) pa_nil))) pa_nil)) (pe_callB (call_repr sy ng (hu64 hr)) (by rfl) T.n_repr (by decide +kernel) (pa_cons (pe_op op_rep (pe_lst (pa_cons (pe_cmpR (op_eqD (hu64 hr)) (pv 3) (pe_tup pa_nil) (nomark _)) pa_nil)) pe_int) pa_nil)) (nomark _)) (pss_one (ps_ret pe_bl)) pss_nil)
        (pss_cons (ps_set (i := 6) nd rfl (Or.inl rfl) (pe_d D_law_drawn (hr.mono (by decide)) rfl (pa_cons (pv 0) (pa_cons pe_int pa_nil))))
        (pss_cons (ps_set (i := 7) nd rfl (Or.inl rfl) (pe_d Dparted (hr.mono (by decide)) rfl (pa_cons (pv 6) (pa_cons (pv 1) pa_nil))))
        (pss_cons (ps_if (PW.pt (pw_or (pt_not (pt_val (pe_callB call_isiTup (by rfl) T.n_isinstance (by decide +kernel) (pa_cons (pv 7) (pa_cons (pe_bltn (by rfl) T.n_tuple (by rfl) (v := .ty "tuple") rfl) pa_nil))))) (pw_or (pt_cmpR op_ne (pe_callB call_len_seq (by rfl) T.n_len (by decide +kernel) (pa_cons (pv 7) pa_nil)) pe_int (nomark _)) (pw_or (pt_not (pt_val (pe_d D_law_is_row (hr.mono (by decide)) rfl (pa_cons (pe_ix ix_tup (pv 7) pe_int (fun _ _ => rfl)) pa_nil)))) (pw_or1 (pt_not (pt_val (pe_d D_law_is_row (hr.mono (by decide)) rfl (pa_cons (pe_ix ix_tup (pv 7) pe_int (fun _ _ => rfl)) pa_nil))))))))) (pss_one (ps_ret pe_bl)) pss_nil)
        (pss_cons (ps_if (PW.pt (pw_or (pt_cmpR op_ge (pe_callB call_len_seq (by rfl) T.n_len (by decide +kernel) (pa_cons (pe_ix ix_tup (pv 7) pe_int (fun _ _ => rfl)) pa_nil)) (pe_callB call_len_seq (by rfl) T.n_len (by decide +kernel) (pa_cons (pv 1) pa_nil)) (nomark _)) (pw_or1 (pt_cmpR (op_neD (hu64 hr)) (pe_d D_law_sum (hr.mono (by decide)) rfl (pa_cons (pe_d D_law_product (hr.mono (by decide)) rfl (pa_cons (pe_ix ix_tup (pv 7) pe_int (fun _ _ => rfl)) (pa_cons (pv 1) pa_nil))) (pa_cons (pe_ix ix_tup (pv 7) pe_int (fun _ _ => rfl)) pa_nil))) (pv 6) (nomark _))))) (pss_one (ps_ret pe_bl)) pss_nil)
        (pss_cons (ps_if (PW.pt (pw_or (pt_cmpR op_notBl (pe_d Ddivides (hr.mono (by decide)) rfl (pa_cons (pv 1) (pa_cons (pe_d Drow_less (hr.mono (by decide)) rfl (pa_cons (pv 6) (pa_cons (pe_ix ix_tup (pv 7) pe_int (fun _ _ => rfl)) pa_nil))) pa_nil))) pe_bl (nomark _)) (pw_or1 (pt_cmpR op_ne (pe_d Ddivides (hr.mono (by decide)) rfl (pa_cons (pv 1) (pa_cons (pv 6) pa_nil))) (pe_cmpR (op_eqD (hu64 hr)) (pe_ix ix_tup (pv 7) pe_int (fun _ _ => rfl)) (pe_tup pa_nil) (nomark _)) (nomark _))))) (pss_one (ps_ret pe_bl)) pss_nil)
        (pss_cons (ps_if (pt_cmpR op_ne (pe_callB (call_repr sy ng (hu64 hr)) (by rfl) T.n_repr (by decide +kernel) (pa_cons (pe_lst (pa_cons (pe_d Ddivides (hr.mono (by decide)) rfl (pa_cons (pv 1) (pa_cons (pe_tup pa_nil) pa_nil))) (pa_cons (pe_d Ddivides (hr.mono (by decide)) rfl (pa_cons (pv 1) (pa_cons (pv 1) pa_nil))) (pa_cons (pe_d Ddivides (hr.mono (by decide)) rfl (pa_cons (pv 1) (pa_cons (pe_d Drow_product (hr.mono (by decide)) rfl (pa_cons (pv 6) (pa_cons (pv 1) pa_nil))) pa_nil))) pa_nil)))) pa_nil)) (pe_callB (call_repr sy ng (hu64 hr)) (by rfl) T.n_repr (by decide +kernel) (pa_cons (pe_op op_rep (pe_lst (pa_cons pe_bl pa_nil)) pe_int) pa_nil)) (nomark _)) (pss_one (ps_ret pe_bl)) pss_nil)
        (pss_cons (ps_set (i := 8) nd rfl (Or.inl rfl) (pe_d Drow_product (hr.mono (by decide)) rfl (pa_cons (pv 1) (pa_cons (pe_d D_law_divisor_row (hr.mono (by decide)) rfl (pa_cons (pv 0) (pa_cons pe_int pa_nil))) pa_nil))))
        (pss_cons (ps_if (PW.pt (pw_or (pt_cmpR op_notBl (pe_d Ddivides (hr.mono (by decide)) rfl (pa_cons (pv 1) (pa_cons (pe_d Drow_product (hr.mono (by decide)) rfl (pa_cons (pv 8) (pa_cons (pv 6) pa_nil))) pa_nil))) pe_bl (nomark _)) (pw_or1 (pt_cmpR op_notBl (pe_d Ddivides (hr.mono (by decide)) rfl (pa_cons (pv 8) (pa_cons (pe_d Drow_product (hr.mono (by decide)) rfl (pa_cons (pv 8) (pa_cons (pv 2) pa_nil))) pa_nil))) pe_bl (nomark _))))) (pss_one (ps_ret pe_bl)) pss_nil)
        (pss_one (ps_ret (pe_cmpR op_eq (pe_callB (call_repr sy ng (hu64 hr)) (by rfl) T.n_repr (by decide +kernel) (pa_cons (pe_d Dparted (hr.mono (by decide)) rfl (pa_cons (pe_d Drow_sum (hr.mono (by decide)) rfl (pa_cons (pv 4) (pa_cons (pe_d Drow_product (hr.mono (by decide)) rfl (pa_cons (pv 1) (pa_cons (pv 6) pa_nil))) pa_nil))) (pa_cons (pv 1) pa_nil))) pa_nil)) (pe_callB (call_repr sy ng (hu64 hr)) (by rfl) T.n_repr (by decide +kernel) (pa_cons (pe_tup (pa_cons (pe_d Drow_sum (hr.mono (by decide)) rfl (pa_cons (pv 2) (pa_cons (pv 6) pa_nil))) (pa_cons (pv 3) pa_nil))) pa_nil)) (nomark _)))))))))))))))), ?_⟩
      intro v1 v2 v3 r1 r2 r3 H1 hR1 b1 htb1 hv1 hv2 hv3 ht1 ht2 ht3 hn1 hq1 hq2 hq3 hl1 hl2 hl3 hlt
      refine seq_cut (fun σ' H' => ∃ (y8 : V) (g9 : List Rat), σ' = [some (V.ref a), some v1, some v2, some v3, some y8, none, none, none, none] ∧ Same H1 H' ∧ (RwT K H' y8 g9) ∧ (Tr g9) ∧ (Qs 75 g9) ∧ (g9.length ≤ 8) ∧ (∀ z, ev g9 z = ev r2 z * ev r1 z + ev r3 z)) (fun nx hnx => ?_) ?_
      · refine ⟨v2, rfl, v1, rfl, v2, v1, r2, r1, 4, 4, rfl, hv2, hv1, hq2, hq1, Nat.lt_of_le_of_lt hl2 (by decide), Nat.lt_of_le_of_lt hl1 (by decide), bProd_le2 hl2 (by decide), ?_⟩
        intro y1 g2 H2 s2 yv3 yt4 ye5 yq6 yl7
        have yq6 : Qs 37 g2 := yq6.mono (bProd_le hl2 (by decide))
        have yl7 : g2.length ≤ 8 := Nat.le_trans yl7 (Nat.add_le_add hl2 hl1)
        refine ⟨v3, rfl, y1, v3, g2, r3, 37, rfl, yv3, (hv3.mono (same_t s2)), yq6.mono (by decide), hq3.mono (by decide), by decide, by decide, Nat.lt_of_le_of_lt yl7 (by decide), Nat.lt_of_le_of_lt hl3 (by decide), ?_⟩
        intro y8 g9 H3 s3 yv10 yt11 ye12 yq13 yl14
        have yl14 : g9.length ≤ 8 := Nat.le_trans yl14 (Nat.max_le.mpr ⟨Nat.le_trans yl7 (by decide), Nat.le_trans hl3 (by decide)⟩)
        have ye15 : ∀ z, ev g9 z = ev r2 z * ev r1 z + ev r3 z := fun z => (by have h0 := ye12 z; have h1 := ye5 z; grind)
        exact hnx _ _ ⟨y8, g9, rfl, (s2.trans s3), yv10, yt11, yq13, yl14, ye15⟩
      rintro _ H4 ⟨y8, g9, rfl, s4, yv4_0, yt4_0, yq4_0, yl4_0, ye4_0⟩
      refine seq_cut (fun σ' H' => ∃ (p16 : Addr), σ' = [some (V.ref a), some v1, some v2, some v3, some y8, some (V.ref p16), none, none, none] ∧ Same H4 H' ∧ (RwT K H' v2 r2) ∧ (Tr r2) ∧ (Qs 4 r2) ∧ (r2.length ≤ 4) ∧ (RwT K H' v3 r3) ∧ (Tr r3) ∧ (Qs 4 r3) ∧ (r3.length ≤ 3) ∧ (SqT K H' p16 [v2, v3])) (fun nx hnx => ?_) ?_
      · refine ⟨v2, rfl, v3, rfl, sz_of 2 rfl (by decide), fun p16 hp17 => ?_⟩
        have s5 := same_new (o := (.tup [v2, v3])) hp17
        have e5 : upd H4 p16 (.tup [v2, v3]) p16 = some (.tup [v2, v3]) := upd_same
        generalize upd H4 p16 (.tup [v2, v3]) = H5 at s5 e5
        exact hnx _ _ ⟨p16, rfl, s5, (hv2.mono ((same_t s4).trans (same_t s5))), ht2, hq2, hl2, (hv3.mono ((same_t s4).trans (same_t s5))), ht3, hq3, hl3, (samet_seqT (SameT.refl _) (SqT.of (K := K) e5))⟩
      rintro _ H6 ⟨p16, rfl, s6, yv6_0a, yt6_0a, yq6_0a, yl6_0a, yv6_0b, yt6_0b, yq6_0b, yl6_0b, yv6_0t⟩
      refine seq_cut (fun σ' H' => σ' = [some (V.ref a), some v1, some v2, some v3, some y8, some (V.ref p16), none, none, none] ∧ Same H6 H') (fun nx hnx => ?_) ?_
      · refine ⟨y8, rfl, v1, rfl, y8, v1, g9, r1, rfl, (yv4_0.mono (same_t s6)), (hv1.mono ((same_t s4).trans (same_t s6))), yt4_0, ht1, hn1, (tab_mono ((same_t s4).trans (same_t s6)) htb1), fun H7 s7 => ?_⟩
        refine ⟨y8, v1, g9, r1, 75, 4, rfl, (yv4_0.mono ((same_t s6).trans (same_t s7))), (hv1.mono (((same_t s4).trans (same_t s6)).trans (same_t s7))), ht1, hn1, yq4_0, hq1, Nat.lt_of_le_of_lt yl4_0 (by decide), Nat.lt_of_le_of_lt hl1 (by decide), bSplit_le yl4_0 hl1 (by decide), ?_⟩
        intro t8 v8 w8 q8 r8 H8 s8 ht8 hv8 hw8 tq8 tr8 ev8 lt8 lq8 lr8 zq8 zr8
        have zq8 : Qs 873 q8 := zq8.mono (bSplit_le yl4_0 hl1 (by decide))
        have zr8 : Qs 873 r8 := zr8.mono (bSplit_le yl4_0 hl1 (by decide))
        have lq8 : q8.length ≤ 8 := Nat.le_trans lq8 yl4_0
        have lr8 : r8.length ≤ 8 := Nat.le_trans lr8 yl4_0
        refine ⟨v1, rfl, y8, rfl, v1, y8, rfl, y8, v1, g9, r1, rfl, (yv4_0.mono (((same_t s6).trans (same_t s7)).trans (same_t s8))), (hv1.mono ((((same_t s4).trans (same_t s6)).trans (same_t s7)).trans (same_t s8))), yt4_0, ht1, hn1, (tab_mono ((((same_t s4).trans (same_t s6)).trans (same_t s7)).trans (same_t s8)) htb1), fun H9 s9 => ?_⟩
        refine ⟨y8, v1, g9, r1, 75, 4, rfl, (yv4_0.mono ((((same_t s6).trans (same_t s7)).trans (same_t s8)).trans (same_t s9))), (hv1.mono (((((same_t s4).trans (same_t s6)).trans (same_t s7)).trans (same_t s8)).trans (same_t s9))), ht1, hn1, yq4_0, hq1, Nat.lt_of_le_of_lt yl4_0 (by decide), Nat.lt_of_le_of_lt hl1 (by decide), bSplit_le yl4_0 hl1 (by decide), ?_⟩
        intro t10 v10 w10 q10 r10 H10 s10 ht10 hv10 hw10 tq10 tr10 ev10 lt10 lq10 lr10 zq10 zr10
        have zq10 : Qs 873 q10 := zq10.mono (bSplit_le yl4_0 hl1 (by decide))
        have zr10 : Qs 873 r10 := zr10.mono (bSplit_le yl4_0 hl1 (by decide))
        have lq10 : q10.length ≤ 8 := Nat.le_trans lq10 yl4_0
        have lr10 : r10.length ≤ 8 := Nat.le_trans lr10 yl4_0
        refine ⟨sz_of 2 rfl (by decide), fun p18 hp19 => ?_⟩
        have s11 := same_new (o := (.lst [(V.ref t8), (V.ref t10)])) hp19
        have e11 : upd H10 p18 (.lst [(V.ref t8), (V.ref t10)]) p18 = some (.lst [(V.ref t8), (V.ref t10)]) := upd_same
        generalize upd H10 p18 (.lst [(V.ref t8), (V.ref t10)]) = H11 at s11 e11
        have du20 : q8 = r2 ∧ r8 = r3 := div_unique ht1 hn1 tq8 yt6_0a tr8 yt6_0b lt8 hlt fun x => (by have h0 := ye4_0 x; have h := ev8 x; grind)
        have hc21 : RwT K H8 v8 r2 := du20.1 ▸ hv8
        have hc22 : RwT K H8 w8 r3 := du20.2 ▸ hw8
        have du23 : q10 = r2 ∧ r10 = r3 := div_unique ht1 hn1 tq10 yt6_0a tr10 yt6_0b lt10 hlt fun x => (by have h0 := ye4_0 x; have h := ev10 x; grind)
        have hc24 : RwT K H10 v10 r2 := du23.1 ▸ hv10
        have hc25 : RwT K H10 w10 r3 := du23.2 ▸ hw10
        have rp27 : Rp K H11 (V.ref p18) (.list [(.tuple [(dRw r2), (dRw r3)]), (.tuple [(dRw r2), (dRw r3)])]) := (Rp.lst ((Same.refl _).seq (SqL.of (K := K) e11)) (RpA.cons (Rp.tup (samet_seqT (((same_t s9).trans (same_t s10)).trans (same_t s11)) ht8) (RpA.cons (rp_rw (hc21.mono (((same_t s9).trans (same_t s10)).trans (same_t s11)))) (RpA.cons (rp_rw (hc22.mono (((same_t s9).trans (same_t s10)).trans (same_t s11)))) RpA.nil))) (RpA.cons (Rp.tup (samet_seqT (same_t s11) ht10) (RpA.cons (rp_rw (hc24.mono (same_t s11))) (RpA.cons (rp_rw (hc25.mono (same_t s11))) RpA.nil))) RpA.nil)))
        have ok26 : Okd (.list [(.tuple [(dRw r2), (dRw r3)]), (.tuple [(dRw r2), (dRw r3)])]) := (((((sz_rw (yq6_0a.mono (by decide)) (Nat.le_trans yl6_0a (by decide))).cons ((sz_rw (yq6_0b.mono (by decide)) (Nat.le_trans yl6_0b (by decide))).cons SzA.nil)).tup).cons ((((sz_rw (yq6_0a.mono (by decide)) (Nat.le_trans yl6_0a (by decide))).cons ((sz_rw (yq6_0b.mono (by decide)) (Nat.le_trans yl6_0b (by decide))).cons SzA.nil)).tup).cons SzA.nil)).lst).ok (by decide) (by decide)
        refine ⟨p18, _, rfl, rp27, ok26.1, ok26.2.1, ok26.fits, ?_⟩
        obtain ⟨sx28, hx29⟩ : ∃ x, PyData.shown (.list [(.tuple [(dRw r2), (dRw r3)]), (.tuple [(dRw r2), (dRw r3)])]) = x := ⟨_, rfl⟩
        rw [hx29]
        refine ⟨(V.ref p16), rfl, (V.ref p16), rfl, sz_of 2 rfl (by decide), fun p30 hp31 => ?_⟩
        have s12 := same_new (o := (.lst [(V.ref p16), (V.ref p16)])) hp31
        have e12 : upd H11 p30 (.lst [(V.ref p16), (V.ref p16)]) p30 = some (.lst [(V.ref p16), (V.ref p16)]) := upd_same
        generalize upd H11 p30 (.lst [(V.ref p16), (V.ref p16)]) = H12 at s12 e12
        have rp33 : Rp K H12 (V.ref p30) (.list [(.tuple [(dRw r2), (dRw r3)]), (.tuple [(dRw r2), (dRw r3)])]) := (Rp.lst ((Same.refl _).seq (SqL.of (K := K) e12)) (RpA.cons (Rp.tup (samet_seqT ((((((same_t s7).trans (same_t s8)).trans (same_t s9)).trans (same_t s10)).trans (same_t s11)).trans (same_t s12)) yv6_0t) (RpA.cons (rp_rw (yv6_0a.mono ((((((same_t s7).trans (same_t s8)).trans (same_t s9)).trans (same_t s10)).trans (same_t s11)).trans (same_t s12)))) (RpA.cons (rp_rw (yv6_0b.mono ((((((same_t s7).trans (same_t s8)).trans (same_t s9)).trans (same_t s10)).trans (same_t s11)).trans (same_t s12)))) RpA.nil))) (RpA.cons (Rp.tup (samet_seqT ((((((same_t s7).trans (same_t s8)).trans (same_t s9)).trans (same_t s10)).trans (same_t s11)).trans (same_t s12)) yv6_0t) (RpA.cons (rp_rw (yv6_0a.mono ((((((same_t s7).trans (same_t s8)).trans (same_t s9)).trans (same_t s10)).trans (same_t s11)).trans (same_t s12)))) (RpA.cons (rp_rw (yv6_0b.mono ((((((same_t s7).trans (same_t s8)).trans (same_t s9)).trans (same_t s10)).trans (same_t s11)).trans (same_t s12)))) RpA.nil))) RpA.nil)))
        have ok32 : Okd (.list [(.tuple [(dRw r2), (dRw r3)]), (.tuple [(dRw r2), (dRw r3)])]) := (((((sz_rw (yq6_0a.mono (by decide)) (Nat.le_trans yl6_0a (by decide))).cons ((sz_rw (yq6_0b.mono (by decide)) (Nat.le_trans yl6_0b (by decide))).cons SzA.nil)).tup).cons ((((sz_rw (yq6_0a.mono (by decide)) (Nat.le_trans yl6_0a (by decide))).cons ((sz_rw (yq6_0b.mono (by decide)) (Nat.le_trans yl6_0b (by decide))).cons SzA.nil)).tup).cons SzA.nil)).lst).ok (by decide) (by decide)
        refine ⟨p30, _, rfl, rp33, ok32.1, ok32.2.1, ok32.fits, ?_⟩
        rw [hx29]
        refine ⟨rfl, _, rfl, ?_⟩
        refine ne_str_same ?_
        exact hnx _ _ ⟨rfl, (((((s7.trans s8).trans s9).trans s10).trans s11).trans s12)⟩
      rintro _ H13 ⟨rfl, s13⟩
      refine seq_cut (fun σ' H' => σ' = [some (V.ref a), some v1, some v2, some v3, some y8, some (V.ref p16), none, none, none] ∧ Same H13 H') (fun nx hnx => ?_) ?_
      · refine ⟨v1, rfl, y8, rfl, v1, y8, r1, g9, 75, 4, rfl, (hv1.mono (((same_t s4).trans (same_t s6)).trans (same_t s13))), (yv4_0.mono ((same_t s6).trans (same_t s13))), ht1, yt4_0, hn1, (tab_mono (((same_t s4).trans (same_t s6)).trans (same_t s13)) htb1), yq4_0, hq1, Nat.lt_of_le_of_lt yl4_0 (by decide), Nat.lt_of_le_of_lt hl1 (by decide), bSplit_le yl4_0 hl1 (by decide), ?_⟩
        intro q14 r14 H14 s14 tq14 tr14 ev14 lt14
        refine ⟨y8, rfl, v1, rfl, y8, v1, rfl, v1, y8, r1, g9, 75, 4, rfl, (hv1.mono ((((same_t s4).trans (same_t s6)).trans (same_t s13)).trans (same_t s14))), (yv4_0.mono (((same_t s6).trans (same_t s13)).trans (same_t s14))), ht1, yt4_0, hn1, (tab_mono ((((same_t s4).trans (same_t s6)).trans (same_t s13)).trans (same_t s14)) htb1), yq4_0, hq1, Nat.lt_of_le_of_lt yl4_0 (by decide), Nat.lt_of_le_of_lt hl1 (by decide), bSplit_le yl4_0 hl1 (by decide), ?_⟩
        intro q15 r15 H15 s15 tq15 tr15 ev15 lt15
        refine ⟨sz_of 2 rfl (by decide), fun p34 hp35 => ?_⟩
        have s16 := same_new (o := (.lst [(V.bl (decide (r14 = []))), (V.bl (decide (r15 = [])))])) hp35
        have e16 : upd H15 p34 (.lst [(V.bl (decide (r14 = []))), (V.bl (decide (r15 = [])))]) p34 = some (.lst [(V.bl (decide (r14 = []))), (V.bl (decide (r15 = [])))]) := upd_same
        generalize upd H15 p34 (.lst [(V.bl (decide (r14 = []))), (V.bl (decide (r15 = [])))]) = H16 at s16 e16
        have du36 : q14 = r2 ∧ r14 = r3 := div_unique ht1 hn1 tq14 yt6_0a tr14 yt6_0b lt14 hlt fun x => (by have h0 := ye4_0 x; have h := ev14 x; grind)
        have dt37 : decide (r14 = []) = decide (r3 = []) := by rw [du36.2]
        have du38 : q15 = r2 ∧ r15 = r3 := div_unique ht1 hn1 tq15 yt6_0a tr15 yt6_0b lt15 hlt fun x => (by have h0 := ye4_0 x; have h := ev15 x; grind)
        have dt39 : decide (r15 = []) = decide (r3 = []) := by rw [du38.2]
        have rp41 : Rp K H16 (V.ref p34) (.list [(.bool (decide (r3 = []))), (.bool (decide (r3 = [])))]) := (Rp.lst ((Same.refl _).seq (SqL.of (K := K) e16)) (RpA.cons (dt37 ▸ Rp.bl (decide (r14 = []))) (RpA.cons (dt39 ▸ Rp.bl (decide (r15 = []))) RpA.nil)))
        have ok40 : Okd (.list [(.bool (decide (r3 = []))), (.bool (decide (r3 = [])))]) := (((sz_bl (decide (r3 = []))).cons ((sz_bl (decide (r3 = []))).cons SzA.nil)).lst).ok (by decide) (by decide)
        refine ⟨p34, _, rfl, rp41, ok40.1, ok40.2.1, ok40.fits, ?_⟩
        obtain ⟨sx42, hx43⟩ : ∃ x, PyData.shown (.list [(.bool (decide (r3 = []))), (.bool (decide (r3 = [])))]) = x := ⟨_, rfl⟩
        rw [hx43]
        refine ⟨v3, rfl, sz_of 0 rfl (by decide), fun p44 hp45 => ?_⟩
        have s17 := same_new (o := (.tup [])) hp45
        have e17 : upd H16 p44 (.tup []) p44 = some (.tup []) := upd_same
        generalize upd H16 p44 (.tup []) = H17 at s17 e17
        refine rEqD_rw (yv6_0b.mono (((((same_t s13).trans (same_t s14)).trans (same_t s15)).trans (same_t s16)).trans (same_t s17))) (rwt_nil (SqT.of e17)) ?_
        refine ⟨sz_of 1 rfl (by decide), fun p46 hp47 => ?_⟩
        have s18 := same_new (o := (.lst [(V.bl (decide (r3 = [])))])) hp47
        have e18 : upd H17 p46 (.lst [(V.bl (decide (r3 = [])))]) p46 = some (.lst [(V.bl (decide (r3 = [])))]) := upd_same
        generalize upd H17 p46 (.lst [(V.bl (decide (r3 = [])))]) = H18 at s18 e18
        refine rep_qc (k := 2) (ys := [(V.bl (decide (r3 = []))), (V.bl (decide (r3 = [])))]) rfl ((Same.refl _) _ _ e18) (by decide) (Nat.le_of_ble_eq_true rfl) rfl (fun p48 hp49 => ?_)
        have s19 := same_new (o := (.lst [(V.bl (decide (r3 = []))), (V.bl (decide (r3 = [])))])) hp49
        have e19 : upd H18 p48 (.lst [(V.bl (decide (r3 = []))), (V.bl (decide (r3 = [])))]) p48 = some (.lst [(V.bl (decide (r3 = []))), (V.bl (decide (r3 = [])))]) := upd_same
        generalize upd H18 p48 (.lst [(V.bl (decide (r3 = []))), (V.bl (decide (r3 = [])))]) = H19 at s19 e19
        have rp51 : Rp K H19 (V.ref p48) (.list [(.bool (decide (r3 = []))), (.bool (decide (r3 = [])))]) := (Rp.lst ((Same.refl _).seq (SqL.of (K := K) e19)) (RpA.cons (Rp.bl (decide (r3 = []))) (RpA.cons (Rp.bl (decide (r3 = []))) RpA.nil)))
        have ok50 : Okd (.list [(.bool (decide (r3 = []))), (.bool (decide (r3 = [])))]) := (((sz_bl (decide (r3 = []))).cons ((sz_bl (decide (r3 = []))).cons SzA.nil)).lst).ok (by decide) (by decide)
        refine ⟨p48, _, rfl, rp51, ok50.1, ok50.2.1, ok50.fits, ?_⟩
        rw [hx43]
        refine ⟨rfl, _, rfl, ?_⟩
        refine ne_str_same ?_
        exact hnx _ _ ⟨rfl, (((((s14.trans s15).trans s16).trans s17).trans s18).trans s19)⟩
      rintro _ H20 ⟨rfl, s20⟩
      refine seq_cut (fun σ' H' => ∃ (y21 : V) (g21 : List Rat), σ' = [some (V.ref a), some v1, some v2, some v3, some y8, some (V.ref p16), some y21, none, none] ∧ RlAt a H' ∧ But a H20 H' ∧ (RwT K H' y21 g21) ∧ (Tr g21) ∧ (Qs 4 g21) ∧ (g21.length ≤ 5)) (fun nx hnx => ?_) ?_
      · refine ⟨V.ref a, rfl, a, 5, rfl, (same_rl hR1 (((s4.trans s6).trans s13).trans s20)), by decide, ?_⟩
        intro y21 g21 H21 hR21 b21 yv21 yt21 yq21 yl21
        have st21 := but_samet (same_rl hR1 (((s4.trans s6).trans s13).trans s20)) b21
        exact hnx _ _ ⟨y21, g21, rfl, hR21, b21, yv21, yt21, yq21, yl21⟩
      rintro _ H22 ⟨y21, g21, rfl, hR22, b22, yv22_0, yt22_0, yq22_0, yl22_0⟩
      have st22 := but_samet (same_rl hR1 (((s4.trans s6).trans s13).trans s20)) b22
      refine seq_cut (fun σ' H' => ∃ (t24 : Addr) (v24 : V) (q24 : List Rat) (w24 : V) (r24 : List Rat), σ' = [some (V.ref a), some v1, some v2, some v3, some y8, some (V.ref p16), some y21, some (V.ref t24), none] ∧ Same H22 H' ∧ (RwT K H' v24 q24) ∧ (Tr q24) ∧ (Qs 156 q24) ∧ (q24.length ≤ 5) ∧ (RwT K H' w24 r24) ∧ (Tr r24) ∧ (Qs 156 r24) ∧ (r24.length ≤ 5) ∧ (SqT K H' t24 [v24, w24]) ∧ (∀ z, ev g21 z = ev q24 z * ev r1 z + ev r24 z) ∧ (r24.length < r1.length)) (fun nx hnx => ?_) ?_
      · refine ⟨y21, rfl, v1, rfl, y21, v1, g21, r1, rfl, yv22_0, (hv1.mono (((((same_t s4).trans (same_t s6)).trans (same_t s13)).trans (same_t s20)).trans st22)), yt22_0, ht1, hn1, (tab_mono (((((same_t s4).trans (same_t s6)).trans (same_t s13)).trans (same_t s20)).trans st22) htb1), fun H23 s23 => ?_⟩
        refine ⟨y21, v1, g21, r1, 4, 4, rfl, (yv22_0.mono (same_t s23)), (hv1.mono ((((((same_t s4).trans (same_t s6)).trans (same_t s13)).trans (same_t s20)).trans st22).trans (same_t s23))), ht1, hn1, yq22_0, hq1, Nat.lt_of_le_of_lt yl22_0 (by decide), Nat.lt_of_le_of_lt hl1 (by decide), bSplit_le yl22_0 hl1 (by decide), ?_⟩
        intro t24 v24 w24 q24 r24 H24 s24 ht24 hv24 hw24 tq24 tr24 ev24 lt24 lq24 lr24 zq24 zr24
        have zq24 : Qs 156 q24 := zq24.mono (bSplit_le yl22_0 hl1 (by decide))
        have zr24 : Qs 156 r24 := zr24.mono (bSplit_le yl22_0 hl1 (by decide))
        have lq24 : q24.length ≤ 5 := Nat.le_trans lq24 yl22_0
        have lr24 : r24.length ≤ 5 := Nat.le_trans lr24 yl22_0
        exact hnx _ _ ⟨t24, v24, q24, w24, r24, rfl, (s23.trans s24), hv24, tq24, zq24, lq24, hw24, tr24, zr24, lr24, (samet_seqT (SameT.refl _) ht24), ev24, lt24⟩
      rintro _ H25 ⟨t24, v24, q24, w24, r24, rfl, s25, yv25_0a, yt25_0a, yq25_0a, yl25_0a, yv25_0b, yt25_0b, yq25_0b, yl25_0b, yv25_0t, ye25_0, yw25_0⟩
      refine seq_cut (fun σ' H' => σ' = [some (V.ref a), some v1, some v2, some v3, some y8, some (V.ref p16), some y21, some (V.ref t24), none] ∧ Same H25 H') (fun nx hnx => ?_) ?_
      · have hT : SqT K H25 t24 [v24, w24] := (samet_seqT (SameT.refl _) yv25_0t)
        have hT' : SqL K H25 t24 [v24, w24] ∨ SqT K H25 t24 [v24, w24] := Or.inr hT
        have g0 : atI [v24, w24] 0 = some v24 := rfl
        have g1 : atI [v24, w24] 1 = some w24 := rfl
        have hq := yv25_0a
        walk_at "r0"
        refine ⟨yq25_0a.mono (by decide), Nat.lt_of_le_of_lt yl25_0a (by decide), fun H26 s26 => ?_⟩
        have hT : SqT K H26 t24 [v24, w24] := (samet_seqT (same_t s26) yv25_0t)
        have hT' : SqL K H26 t24 [v24, w24] ∨ SqT K H26 t24 [v24, w24] := Or.inr hT
        have hr := (yv25_0b.mono (same_t s26))
        walk_at "r0"
        refine ⟨yq25_0b.mono (by decide), Nat.lt_of_le_of_lt yl25_0b (by decide), fun H27 s27 => ?_⟩
        walk_at "r0"
        exact hnx _ _ ⟨rfl, (s26.trans s27)⟩
      rintro _ H28 ⟨rfl, s28⟩
      refine seq_cut (fun σ' H' => σ' = [some (V.ref a), some v1, some v2, some v3, some y8, some (V.ref p16), some y21, some (V.ref t24), none] ∧ Same H28 H') (fun nx hnx => ?_) ?_
      · have k1 := (yv25_0b.mono (same_t s28))
        obtain ⟨aw, us, rfl, hw, hA⟩ := k1
        have k1 := (hv1.mono (((((((same_t s4).trans (same_t s6)).trans (same_t s13)).trans (same_t s20)).trans st22).trans (same_t s25)).trans (same_t s28)))
        obtain ⟨a2, us2, rfl, hw2, hA2⟩ := k1
        have hT : SqT K H28 t24 [v24, (V.ref aw)] := (samet_seqT (same_t s28) yv25_0t)
        have hT' : SqL K H28 t24 [v24, (V.ref aw)] ∨ SqT K H28 t24 [v24, (V.ref aw)] := Or.inr hT
        have g0 : atI [v24, (V.ref aw)] 0 = some v24 := rfl
        have g1 : atI [v24, (V.ref aw)] 1 = some (V.ref aw) := rfl
        have l1 := hA.length
        have l2 := hA2.length
        have hw' : SqL K H28 aw us ∨ SqT K H28 aw us := Or.inr hw
        have hw2' : SqL K H28 a2 us2 ∨ SqT K H28 a2 us2 := Or.inr hw2
        walk_at "r0"
        refine if_no (by omega) ?_
        refine ⟨(V.ref t24), rfl, t24, _, 0, v24, rfl, rfl, (samet_seqT (same_t s28) yv25_0t), rfl, (V.ref a2), rfl, v24, (V.ref a2), q24, r1, 156, 4, rfl, (yv25_0a.mono (same_t s28)), (hv1.mono (((((((same_t s4).trans (same_t s6)).trans (same_t s13)).trans (same_t s20)).trans st22).trans (same_t s25)).trans (same_t s28))), yq25_0a, hq1, Nat.lt_of_le_of_lt yl25_0a (by decide), Nat.lt_of_le_of_lt hl1 (by decide), bProd_le2 yl25_0a (by decide), ?_⟩
        intro y52 g53 H29 s29 yv54 yt55 ye56 yq57 yl58
        have yq57 : Qs 806 g53 := yq57.mono (bProd_le yl25_0a (by decide))
        have yl58 : g53.length ≤ 9 := Nat.le_trans yl58 (Nat.add_le_add yl25_0a hl1)
        refine ⟨(V.ref t24), rfl, t24, _, 1, (V.ref aw), rfl, rfl, (samet_seqT ((same_t s28).trans (same_t s29)) yv25_0t), rfl, y52, (V.ref aw), g53, r24, 806, rfl, yv54, (yv25_0b.mono ((same_t s28).trans (same_t s29))), yq57.mono (by decide), yq25_0b.mono (by decide), by decide, by decide, Nat.lt_of_le_of_lt yl58 (by decide), Nat.lt_of_le_of_lt yl25_0b (by decide), ?_⟩
        intro y59 g60 H30 s30 yv61 yt62 ye63 yq64 yl65
        have yl65 : g60.length ≤ 9 := Nat.le_trans yl65 (Nat.max_le.mpr ⟨Nat.le_trans yl58 (by decide), Nat.le_trans yl25_0b (by decide)⟩)
        refine ⟨y21, rfl, ?_⟩
        refine rNeD_rw yv61 (yv22_0.mono ((((same_t s25).trans (same_t s28)).trans (same_t s29)).trans (same_t s30))) ?_
        have eq66 : g60 = g21 := ev_inj yt62 yt22_0 fun x => (by have h0 := ye63 x; have h1 := ye56 x; have h2 := ye25_0 x; grind)
        refine ⟨false, congrArg V.bl (not_dec eq66), ?_⟩
        exact hnx _ _ ⟨rfl, (s29.trans s30)⟩
      rintro _ H31 ⟨rfl, s31⟩
      refine seq_cut (fun σ' H' => σ' = [some (V.ref a), some v1, some v2, some v3, some y8, some (V.ref p16), some y21, some (V.ref t24), none] ∧ Same H31 H') (fun nx hnx => ?_) ?_
      · refine ⟨v1, rfl, y21, rfl, (V.ref t24), rfl, t24, _, 1, w24, rfl, rfl, (samet_seqT ((same_t s28).trans (same_t s31)) yv25_0t), rfl, y21, w24, g21, r24, rfl, (yv22_0.mono (((same_t s25).trans (same_t s28)).trans (same_t s31))), (yv25_0b.mono ((same_t s28).trans (same_t s31))), yt22_0, yt25_0b, (tab_mono ((((((((same_t s4).trans (same_t s6)).trans (same_t s13)).trans (same_t s20)).trans st22).trans (same_t s25)).trans (same_t s28)).trans (same_t s31)) htb1), fun H32 s32 => ?_⟩
        refine ⟨y21, w24, g21, r24, 156, rfl, (yv22_0.mono ((((same_t s25).trans (same_t s28)).trans (same_t s31)).trans (same_t s32))), (yv25_0b.mono (((same_t s28).trans (same_t s31)).trans (same_t s32))), yq22_0.mono (by decide), yq25_0b.mono (by decide), by decide, by decide, Nat.lt_of_le_of_lt yl22_0 (by decide), Nat.lt_of_le_of_lt yl25_0b (by decide), ?_⟩
        intro y67 g68 H33 s33 yv69 yt70 ye71 yq72 yl73
        have yl73 : g68.length ≤ 5 := Nat.le_trans yl73 (Nat.max_le.mpr ⟨Nat.le_trans yl22_0 (by decide), Nat.le_trans yl25_0b (by decide)⟩)
        refine ⟨v1, y67, r1, g68, 313, 4, rfl, (hv1.mono ((((((((((same_t s4).trans (same_t s6)).trans (same_t s13)).trans (same_t s20)).trans st22).trans (same_t s25)).trans (same_t s28)).trans (same_t s31)).trans (same_t s32)).trans (same_t s33))), yv69, ht1, yt70, hn1, (tab_mono ((((((((((same_t s4).trans (same_t s6)).trans (same_t s13)).trans (same_t s20)).trans st22).trans (same_t s25)).trans (same_t s28)).trans (same_t s31)).trans (same_t s32)).trans (same_t s33)) htb1), yq72, hq1, Nat.lt_of_le_of_lt yl73 (by decide), Nat.lt_of_le_of_lt hl1 (by decide), bSplit_le yl73 hl1 (by decide), ?_⟩
        intro q34 r34 H34 s34 tq34 tr34 ev34 lt34
        have dz74 : r34 = [] := div_zero' (a := q24) ht1 hn1 tq34 tr34 lt34 fun x => (by have h0 := ye71 x; have h1 := ye25_0 x; have h := ev34 x; grind)
        have dt75 : decide (r34 = []) = true := decide_eq_true dz74
        refine ⟨(decide (r34 = [])), true, rfl, rfl, ?_⟩
        refine ⟨false, congrArg V.bl (notb dt75), ?_⟩
        refine if_ff ?_
        refine ⟨v1, rfl, y21, rfl, v1, y21, r1, g21, 4, 4, rfl, (hv1.mono (((((((((((same_t s4).trans (same_t s6)).trans (same_t s13)).trans (same_t s20)).trans st22).trans (same_t s25)).trans (same_t s28)).trans (same_t s31)).trans (same_t s32)).trans (same_t s33)).trans (same_t s34))), (yv22_0.mono ((((((same_t s25).trans (same_t s28)).trans (same_t s31)).trans (same_t s32)).trans (same_t s33)).trans (same_t s34))), ht1, yt22_0, hn1, (tab_mono (((((((((((same_t s4).trans (same_t s6)).trans (same_t s13)).trans (same_t s20)).trans st22).trans (same_t s25)).trans (same_t s28)).trans (same_t s31)).trans (same_t s32)).trans (same_t s33)).trans (same_t s34)) htb1), yq22_0, hq1, Nat.lt_of_le_of_lt yl22_0 (by decide), Nat.lt_of_le_of_lt hl1 (by decide), bSplit_le yl22_0 hl1 (by decide), ?_⟩
        intro q35 r35 H35 s35 tq35 tr35 ev35 lt35
        have du76 : q35 = q24 ∧ r35 = r24 := div_unique ht1 hn1 tq35 yt25_0a tr35 yt25_0b lt35 yw25_0 fun x => (by have h0 := ye25_0 x; have h := ev35 x; grind)
        have dt77 : decide (r35 = []) = decide (r24 = []) := by rw [du76.2]
        refine ⟨(V.ref t24), rfl, t24, _, 1, w24, rfl, rfl, (samet_seqT ((((((same_t s28).trans (same_t s31)).trans (same_t s32)).trans (same_t s33)).trans (same_t s34)).trans (same_t s35)) yv25_0t), rfl, sz_of 0 rfl (by decide), fun p78 hp79 => ?_⟩
        have s36 := same_new (o := (.tup [])) hp79
        have e36 : upd H35 p78 (.tup []) p78 = some (.tup []) := upd_same
        generalize upd H35 p78 (.tup []) = H36 at s36 e36
        refine rEqD_rw (yv25_0b.mono (((((((same_t s28).trans (same_t s31)).trans (same_t s32)).trans (same_t s33)).trans (same_t s34)).trans (same_t s35)).trans (same_t s36))) (rwt_nil (SqT.of e36)) ?_
        refine ⟨rfl, ?_⟩
        refine ⟨false, congrArg V.bl (not_dec (congrArg V.bl dt77)), ?_⟩
        exact hnx _ _ ⟨rfl, ((((s32.trans s33).trans s34).trans s35).trans s36)⟩
      rintro _ H37 ⟨rfl, s37⟩
      refine seq_cut (fun σ' H' => σ' = [some (V.ref a), some v1, some v2, some v3, some y8, some (V.ref p16), some y21, some (V.ref t24), none] ∧ Same H37 H') (fun nx hnx => ?_) ?_
      · refine ⟨v1, rfl, sz_of 0 rfl (by decide), fun p80 hp81 => ?_⟩
        have s38 := same_new (o := (.tup [])) hp81
        have e38 : upd H37 p80 (.tup []) p80 = some (.tup []) := upd_same
        generalize upd H37 p80 (.tup []) = H38 at s38 e38
        refine ⟨v1, (V.ref p80), r1, [], 1, 4, rfl, (hv1.mono ((((((((((same_t s4).trans (same_t s6)).trans (same_t s13)).trans (same_t s20)).trans st22).trans (same_t s25)).trans (same_t s28)).trans (same_t s31)).trans (same_t s37)).trans (same_t s38))), (rwt_nil (SqT.of e38)), ht1, tr_nil, hn1, (tab_mono ((((((((((same_t s4).trans (same_t s6)).trans (same_t s13)).trans (same_t s20)).trans st22).trans (same_t s25)).trans (same_t s28)).trans (same_t s31)).trans (same_t s37)).trans (same_t s38)) htb1), (show Qs 1 [] from fun _ h => (by cases h)), hq1, Nat.lt_of_le_of_lt (show ([] : List Rat).length ≤ 0 from Nat.le_refl _) (by decide), Nat.lt_of_le_of_lt hl1 (by decide), bSplit_le (show ([] : List Rat).length ≤ 0 from Nat.le_refl _) hl1 (by decide), ?_⟩
        intro q39 r39 H39 s39 tq39 tr39 ev39 lt39
        have dz82 : r39 = [] := div_zero' (a := []) ht1 hn1 tq39 tr39 lt39 fun x => (by have h0 := ev_nil x; have h := ev39 x; grind)
        have dt83 : decide (r39 = []) = true := decide_eq_true dz82
        refine ⟨v1, rfl, v1, rfl, v1, v1, r1, r1, 4, 4, rfl, (hv1.mono (((((((((((same_t s4).trans (same_t s6)).trans (same_t s13)).trans (same_t s20)).trans st22).trans (same_t s25)).trans (same_t s28)).trans (same_t s31)).trans (same_t s37)).trans (same_t s38)).trans (same_t s39))), (hv1.mono (((((((((((same_t s4).trans (same_t s6)).trans (same_t s13)).trans (same_t s20)).trans st22).trans (same_t s25)).trans (same_t s28)).trans (same_t s31)).trans (same_t s37)).trans (same_t s38)).trans (same_t s39))), ht1, ht1, hn1, (tab_mono (((((((((((same_t s4).trans (same_t s6)).trans (same_t s13)).trans (same_t s20)).trans st22).trans (same_t s25)).trans (same_t s28)).trans (same_t s31)).trans (same_t s37)).trans (same_t s38)).trans (same_t s39)) htb1), hq1, hq1, Nat.lt_of_le_of_lt hl1 (by decide), Nat.lt_of_le_of_lt hl1 (by decide), bSplit_le hl1 hl1 (by decide), ?_⟩
        intro q40 r40 H40 s40 tq40 tr40 ev40 lt40
        have dz84 : r40 = [] := div_zero' (a := [1]) ht1 hn1 tq40 tr40 lt40 fun x => (by have h0 := ev_one x; have h := ev40 x; grind)
        have dt85 : decide (r40 = []) = true := decide_eq_true dz84
        refine ⟨v1, rfl, y21, rfl, v1, rfl, y21, v1, g21, r1, rfl, (yv22_0.mono (((((((same_t s25).trans (same_t s28)).trans (same_t s31)).trans (same_t s37)).trans (same_t s38)).trans (same_t s39)).trans (same_t s40))), (hv1.mono ((((((((((((same_t s4).trans (same_t s6)).trans (same_t s13)).trans (same_t s20)).trans st22).trans (same_t s25)).trans (same_t s28)).trans (same_t s31)).trans (same_t s37)).trans (same_t s38)).trans (same_t s39)).trans (same_t s40))), yt22_0, ht1, (tab_mono ((((((((((((same_t s4).trans (same_t s6)).trans (same_t s13)).trans (same_t s20)).trans st22).trans (same_t s25)).trans (same_t s28)).trans (same_t s31)).trans (same_t s37)).trans (same_t s38)).trans (same_t s39)).trans (same_t s40)) htb1), fun H41 s41 => ?_⟩
        refine ⟨y21, v1, g21, r1, 4, 4, rfl, (yv22_0.mono ((((((((same_t s25).trans (same_t s28)).trans (same_t s31)).trans (same_t s37)).trans (same_t s38)).trans (same_t s39)).trans (same_t s40)).trans (same_t s41))), (hv1.mono (((((((((((((same_t s4).trans (same_t s6)).trans (same_t s13)).trans (same_t s20)).trans st22).trans (same_t s25)).trans (same_t s28)).trans (same_t s31)).trans (same_t s37)).trans (same_t s38)).trans (same_t s39)).trans (same_t s40)).trans (same_t s41))), yq22_0, hq1, Nat.lt_of_le_of_lt yl22_0 (by decide), Nat.lt_of_le_of_lt hl1 (by decide), bTimes_le yl22_0 hl1 (by decide), ?_⟩
        intro y86 g87 H42 s42 yv88 yt89 ye90 yq91 yl92
        have yq91 : Qs 56 g87 := yq91.mono (bTimes_le yl22_0 hl1 (by decide))
        have yl92 : g87.length ≤ 9 := Nat.le_trans yl92 (Nat.add_le_add yl22_0 hl1)
        refine ⟨v1, y86, r1, g87, 56, 4, rfl, (hv1.mono ((((((((((((((same_t s4).trans (same_t s6)).trans (same_t s13)).trans (same_t s20)).trans st22).trans (same_t s25)).trans (same_t s28)).trans (same_t s31)).trans (same_t s37)).trans (same_t s38)).trans (same_t s39)).trans (same_t s40)).trans (same_t s41)).trans (same_t s42))), yv88, ht1, yt89, hn1, (tab_mono ((((((((((((((same_t s4).trans (same_t s6)).trans (same_t s13)).trans (same_t s20)).trans st22).trans (same_t s25)).trans (same_t s28)).trans (same_t s31)).trans (same_t s37)).trans (same_t s38)).trans (same_t s39)).trans (same_t s40)).trans (same_t s41)).trans (same_t s42)) htb1), yq91, hq1, Nat.lt_of_le_of_lt yl92 (by decide), Nat.lt_of_le_of_lt hl1 (by decide), bSplit_le yl92 hl1 (by decide), ?_⟩
        intro q43 r43 H43 s43 tq43 tr43 ev43 lt43
        have dz93 : r43 = [] := div_zero' (a := g21) ht1 hn1 tq43 tr43 lt43 fun x => (by have h0 := ye90 x; have h := ev43 x; grind)
        have dt94 : decide (r43 = []) = true := decide_eq_true dz93
        refine ⟨sz_of 3 rfl (by decide), fun p95 hp96 => ?_⟩
        have s44 := same_new (o := (.lst [(V.bl (decide (r39 = []))), (V.bl (decide (r40 = []))), (V.bl (decide (r43 = [])))])) hp96
        have e44 : upd H43 p95 (.lst [(V.bl (decide (r39 = []))), (V.bl (decide (r40 = []))), (V.bl (decide (r43 = [])))]) p95 = some (.lst [(V.bl (decide (r39 = []))), (V.bl (decide (r40 = []))), (V.bl (decide (r43 = [])))]) := upd_same
        generalize upd H43 p95 (.lst [(V.bl (decide (r39 = []))), (V.bl (decide (r40 = []))), (V.bl (decide (r43 = [])))]) = H44 at s44 e44
        have rp98 : Rp K H44 (V.ref p95) (.list [(.bool true), (.bool true), (.bool true)]) := (Rp.lst ((Same.refl _).seq (SqL.of (K := K) e44)) (RpA.cons (dt83 ▸ Rp.bl (decide (r39 = []))) (RpA.cons (dt85 ▸ Rp.bl (decide (r40 = []))) (RpA.cons (dt94 ▸ Rp.bl (decide (r43 = []))) RpA.nil))))
        have ok97 : Okd (.list [(.bool true), (.bool true), (.bool true)]) := (((sz_bl true).cons ((sz_bl true).cons ((sz_bl true).cons SzA.nil))).lst).ok (by decide) (by decide)
        refine ⟨p95, _, rfl, rp98, ok97.1, ok97.2.1, ok97.fits, ?_⟩
        obtain ⟨sx99, hx100⟩ : ∃ x, PyData.shown (.list [(.bool true), (.bool true), (.bool true)]) = x := ⟨_, rfl⟩
        rw [hx100]
        refine ⟨sz_of 1 rfl (by decide), fun p101 hp102 => ?_⟩
        have s45 := same_new (o := (.lst [(V.bl true)])) hp102
        have e45 : upd H44 p101 (.lst [(V.bl true)]) p101 = some (.lst [(V.bl true)]) := upd_same
        generalize upd H44 p101 (.lst [(V.bl true)]) = H45 at s45 e45
        refine rep_qc (k := 3) (ys := [(V.bl true), (V.bl true), (V.bl true)]) rfl ((Same.refl _) _ _ e45) (by decide) (Nat.le_of_ble_eq_true rfl) rfl (fun p103 hp104 => ?_)
        have s46 := same_new (o := (.lst [(V.bl true), (V.bl true), (V.bl true)])) hp104
        have e46 : upd H45 p103 (.lst [(V.bl true), (V.bl true), (V.bl true)]) p103 = some (.lst [(V.bl true), (V.bl true), (V.bl true)]) := upd_same
        generalize upd H45 p103 (.lst [(V.bl true), (V.bl true), (V.bl true)]) = H46 at s46 e46
        have rp106 : Rp K H46 (V.ref p103) (.list [(.bool true), (.bool true), (.bool true)]) := (Rp.lst ((Same.refl _).seq (SqL.of (K := K) e46)) (RpA.cons (Rp.bl true) (RpA.cons (Rp.bl true) (RpA.cons (Rp.bl true) RpA.nil))))
        have ok105 : Okd (.list [(.bool true), (.bool true), (.bool true)]) := (((sz_bl true).cons ((sz_bl true).cons ((sz_bl true).cons SzA.nil))).lst).ok (by decide) (by decide)
        refine ⟨p103, _, rfl, rp106, ok105.1, ok105.2.1, ok105.fits, ?_⟩
        rw [hx100]
        refine ⟨rfl, _, rfl, ?_⟩
        refine ne_str_same ?_
        exact hnx _ _ ⟨rfl, ((((((((s38.trans s39).trans s40).trans s41).trans s42).trans s43).trans s44).trans s45).trans s46)⟩
      rintro _ H47 ⟨rfl, s47⟩
      refine seq_cut (fun σ' H' => ∃ (g48 : List Rat) (y107 : V) (g108 : List Rat), σ' = [some (V.ref a), some v1, some v2, some v3, some y8, some (V.ref p16), some y21, some (V.ref t24), some y107] ∧ RlAt a H' ∧ But a H47 H' ∧ (RwT K H' y107 g108) ∧ (Tr g108) ∧ (Qs 27 g108) ∧ (g108.length ≤ 6) ∧ (g108 ≠ []) ∧ (∀ z, ev g108 z = ev r1 z * ev g48 z)) (fun nx hnx => ?_) ?_
      · refine ⟨v1, rfl, V.ref a, rfl, a, 3, rfl, (same_rl hR22 ((((s25.trans s28).trans s31).trans s37).trans s47)), by decide, by decide, ?_⟩
        intro y48 g48 H48 hR48 b48 yv48 yt48 yn48 yq48 yl48
        have st48 := but_samet (same_rl hR22 ((((s25.trans s28).trans s31).trans s37).trans s47)) b48
        refine ⟨v1, y48, r1, g48, rfl, (hv1.mono (((((((((((same_t s4).trans (same_t s6)).trans (same_t s13)).trans (same_t s20)).trans st22).trans (same_t s25)).trans (same_t s28)).trans (same_t s31)).trans (same_t s37)).trans (same_t s47)).trans st48)), yv48, ht1, yt48, (tab_mono (((((((((((same_t s4).trans (same_t s6)).trans (same_t s13)).trans (same_t s20)).trans st22).trans (same_t s25)).trans (same_t s28)).trans (same_t s31)).trans (same_t s37)).trans (same_t s47)).trans st48) htb1), fun H49 s49 => ?_⟩
        refine ⟨v1, y48, r1, g48, 4, 4, rfl, (hv1.mono ((((((((((((same_t s4).trans (same_t s6)).trans (same_t s13)).trans (same_t s20)).trans st22).trans (same_t s25)).trans (same_t s28)).trans (same_t s31)).trans (same_t s37)).trans (same_t s47)).trans st48).trans (same_t s49))), (yv48.mono (same_t s49)), hq1, yq48, Nat.lt_of_le_of_lt hl1 (by decide), Nat.lt_of_le_of_lt yl48 (by decide), bTimes_le hl1 yl48 (by decide), ?_⟩
        intro y107 g108 H50 s50 yv109 yt110 ye111 yq112 yl113
        have yq112 : Qs 48 g108 := yq112.mono (bTimes_le hl1 yl48 (by decide))
        have yl113 : g108.length ≤ 7 := Nat.le_trans yl113 (Nat.add_le_add hl1 yl48)
        have yq114 : Qs 27 g108 := ((prod_qs yt48 ht1 yt110 (fun x => (by have h := ye111 x; grind)) yq48 hq1 yl48)).mono (by decide)
        have yl115 : g108.length ≤ 6 := prod_len ht1 yt48 yt110 ye111 hl1 yl48
        have ne116 : g108 ≠ [] := prod_ne ht1 yt48 hn1 yn48 yt110 ye111
        exact hnx _ _ ⟨g48, y107, g108, rfl, (same_rl hR48 (s49.trans s50)), (but_trans (but_trans b48 (same_but a s49)) (same_but a s50)), yv109, yt110, yq114, yl115, ne116, ye111⟩
      rintro _ H51 ⟨g48, y107, g108, rfl, hR51, b51, yv51_0, yt51_0, yq51_0, yl51_0, yn51_0, ye51_0⟩
      have st51 := but_samet (same_rl hR22 ((((s25.trans s28).trans s31).trans s37).trans s47)) b51
      refine seq_cut (fun σ' H' => σ' = [some (V.ref a), some v1, some v2, some v3, some y8, some (V.ref p16), some y21, some (V.ref t24), some y107] ∧ Same H51 H') (fun nx hnx => ?_) ?_
      · refine ⟨v1, rfl, y107, rfl, y21, rfl, y107, y21, g108, g21, rfl, yv51_0, (yv22_0.mono ((((((same_t s25).trans (same_t s28)).trans (same_t s31)).trans (same_t s37)).trans (same_t s47)).trans st51)), yt51_0, yt22_0, (tab_mono (((((((((((same_t s4).trans (same_t s6)).trans (same_t s13)).trans (same_t s20)).trans st22).trans (same_t s25)).trans (same_t s28)).trans (same_t s31)).trans (same_t s37)).trans (same_t s47)).trans st51) htb1), fun H52 s52 => ?_⟩
        refine ⟨y107, y21, g108, g21, 27, 4, rfl, (yv51_0.mono (same_t s52)), (yv22_0.mono (((((((same_t s25).trans (same_t s28)).trans (same_t s31)).trans (same_t s37)).trans (same_t s47)).trans st51).trans (same_t s52))), yq51_0, yq22_0, Nat.lt_of_le_of_lt yl51_0 (by decide), Nat.lt_of_le_of_lt yl22_0 (by decide), bTimes_le yl51_0 yl22_0 (by decide), ?_⟩
        intro y117 g118 H53 s53 yv119 yt120 ye121 yq122 yl123
        have yq122 : Qs 225 g118 := yq122.mono (bTimes_le yl51_0 yl22_0 (by decide))
        have yl123 : g118.length ≤ 11 := Nat.le_trans yl123 (Nat.add_le_add yl51_0 yl22_0)
        have yq124 : Qs 160 g118 := ((prod_qs yt22_0 yt51_0 yt120 (fun x => (by have h := ye121 x; grind)) yq22_0 yq51_0 yl22_0)).mono (by decide)
        have yl125 : g118.length ≤ 10 := prod_len yt51_0 yt22_0 yt120 ye121 yl51_0 yl22_0
        refine ⟨v1, y117, r1, g118, 160, 4, rfl, (hv1.mono (((((((((((((same_t s4).trans (same_t s6)).trans (same_t s13)).trans (same_t s20)).trans st22).trans (same_t s25)).trans (same_t s28)).trans (same_t s31)).trans (same_t s37)).trans (same_t s47)).trans st51).trans (same_t s52)).trans (same_t s53))), yv119, ht1, yt120, hn1, (tab_mono (((((((((((((same_t s4).trans (same_t s6)).trans (same_t s13)).trans (same_t s20)).trans st22).trans (same_t s25)).trans (same_t s28)).trans (same_t s31)).trans (same_t s37)).trans (same_t s47)).trans st51).trans (same_t s52)).trans (same_t s53)) htb1), yq124, hq1, Nat.lt_of_le_of_lt yl125 (by decide), Nat.lt_of_le_of_lt hl1 (by decide), bSplit_le yl125 hl1 (by decide), ?_⟩
        intro q54 r54 H54 s54 tq54 tr54 ev54 lt54
        have dz126 : r54 = [] := div_zero' (a := (pmul g48 g21)) ht1 hn1 tq54 tr54 lt54 fun x => (by have h0 := ye121 x; have h1 := ye51_0 x; have h2 := ev_pmul g48 g21 x; have h := ev54 x; grind)
        have dt127 : decide (r54 = []) = true := decide_eq_true dz126
        refine ⟨(decide (r54 = [])), true, rfl, rfl, ?_⟩
        refine ⟨false, congrArg V.bl (notb dt127), ?_⟩
        refine if_ff ?_
        refine ⟨y107, rfl, y107, rfl, v2, rfl, y107, v2, g108, r2, rfl, (yv51_0.mono (((same_t s52).trans (same_t s53)).trans (same_t s54))), (yv6_0a.mono ((((((((((((same_t s13).trans (same_t s20)).trans st22).trans (same_t s25)).trans (same_t s28)).trans (same_t s31)).trans (same_t s37)).trans (same_t s47)).trans st51).trans (same_t s52)).trans (same_t s53)).trans (same_t s54))), yt51_0, yt6_0a, (tab_mono ((((((((((((((same_t s4).trans (same_t s6)).trans (same_t s13)).trans (same_t s20)).trans st22).trans (same_t s25)).trans (same_t s28)).trans (same_t s31)).trans (same_t s37)).trans (same_t s47)).trans st51).trans (same_t s52)).trans (same_t s53)).trans (same_t s54)) htb1), fun H55 s55 => ?_⟩
        refine ⟨y107, v2, g108, r2, 27, 4, rfl, (yv51_0.mono ((((same_t s52).trans (same_t s53)).trans (same_t s54)).trans (same_t s55))), (yv6_0a.mono (((((((((((((same_t s13).trans (same_t s20)).trans st22).trans (same_t s25)).trans (same_t s28)).trans (same_t s31)).trans (same_t s37)).trans (same_t s47)).trans st51).trans (same_t s52)).trans (same_t s53)).trans (same_t s54)).trans (same_t s55))), yq51_0, yq6_0a, Nat.lt_of_le_of_lt yl51_0 (by decide), Nat.lt_of_le_of_lt yl6_0a (by decide), bTimes_le yl51_0 yl6_0a (by decide), ?_⟩
        intro y128 g129 H56 s56 yv130 yt131 ye132 yq133 yl134
        have yq133 : Qs 221 g129 := yq133.mono (bTimes_le yl51_0 yl6_0a (by decide))
        have yl134 : g129.length ≤ 10 := Nat.le_trans yl134 (Nat.add_le_add yl51_0 yl6_0a)
        have yq135 : Qs 128 g129 := ((prod_qs yt6_0a yt51_0 yt131 (fun x => (by have h := ye132 x; grind)) yq6_0a yq51_0 yl6_0a)).mono (by decide)
        have yl136 : g129.length ≤ 9 := prod_len yt51_0 yt6_0a yt131 ye132 yl51_0 yl6_0a
        refine ⟨y107, y128, g108, g129, 128, 27, rfl, (yv51_0.mono (((((same_t s52).trans (same_t s53)).trans (same_t s54)).trans (same_t s55)).trans (same_t s56))), yv130, yt51_0, yt131, yn51_0, (tab_mono ((((((((((((((((same_t s4).trans (same_t s6)).trans (same_t s13)).trans (same_t s20)).trans st22).trans (same_t s25)).trans (same_t s28)).trans (same_t s31)).trans (same_t s37)).trans (same_t s47)).trans st51).trans (same_t s52)).trans (same_t s53)).trans (same_t s54)).trans (same_t s55)).trans (same_t s56)) htb1), yq135, yq51_0, Nat.lt_of_le_of_lt yl136 (by decide), Nat.lt_of_le_of_lt yl51_0 (by decide), bSplit_le yl136 yl51_0 (by decide), ?_⟩
        intro q57 r57 H57 s57 tq57 tr57 ev57 lt57
        have dz137 : r57 = [] := div_zero' (a := r2) yt51_0 yn51_0 tq57 tr57 lt57 fun x => (by have h0 := ye132 x; have h := ev57 x; grind)
        have dt138 : decide (r57 = []) = true := decide_eq_true dz137
        refine ⟨(decide (r57 = [])), true, rfl, rfl, ?_⟩
        refine ⟨false, congrArg V.bl (notb dt138), ?_⟩
        exact hnx _ _ ⟨rfl, (((((s52.trans s53).trans s54).trans s55).trans s56).trans s57)⟩
      rintro _ H58 ⟨rfl, s58⟩
      refine ⟨y8, rfl, v1, rfl, y21, rfl, v1, y21, r1, g21, rfl, (hv1.mono ((((((((((((same_t s4).trans (same_t s6)).trans (same_t s13)).trans (same_t s20)).trans st22).trans (same_t s25)).trans (same_t s28)).trans (same_t s31)).trans (same_t s37)).trans (same_t s47)).trans st51).trans (same_t s58))), (yv22_0.mono (((((((same_t s25).trans (same_t s28)).trans (same_t s31)).trans (same_t s37)).trans (same_t s47)).trans st51).trans (same_t s58))), ht1, yt22_0, (tab_mono ((((((((((((same_t s4).trans (same_t s6)).trans (same_t s13)).trans (same_t s20)).trans st22).trans (same_t s25)).trans (same_t s28)).trans (same_t s31)).trans (same_t s37)).trans (same_t s47)).trans st51).trans (same_t s58)) htb1), fun H59 s59 => ?_⟩
      refine ⟨v1, y21, r1, g21, 4, 4, rfl, (hv1.mono (((((((((((((same_t s4).trans (same_t s6)).trans (same_t s13)).trans (same_t s20)).trans st22).trans (same_t s25)).trans (same_t s28)).trans (same_t s31)).trans (same_t s37)).trans (same_t s47)).trans st51).trans (same_t s58)).trans (same_t s59))), (yv22_0.mono ((((((((same_t s25).trans (same_t s28)).trans (same_t s31)).trans (same_t s37)).trans (same_t s47)).trans st51).trans (same_t s58)).trans (same_t s59))), hq1, yq22_0, Nat.lt_of_le_of_lt hl1 (by decide), Nat.lt_of_le_of_lt yl22_0 (by decide), bTimes_le hl1 yl22_0 (by decide), ?_⟩
      intro y139 g140 H60 s60 yv141 yt142 ye143 yq144 yl145
      have yq144 : Qs 56 g140 := yq144.mono (bTimes_le hl1 yl22_0 (by decide))
      have yl145 : g140.length ≤ 9 := Nat.le_trans yl145 (Nat.add_le_add hl1 yl22_0)
      have yq146 : Qs 36 g140 := ((prod_qs ht1 yt22_0 yt142 ye143 hq1 yq22_0 hl1)).mono (by decide)
      have yl147 : g140.length ≤ 8 := prod_len ht1 yt22_0 yt142 ye143 hl1 yl22_0
      refine ⟨y8, y139, g9, g140, rfl, (yv4_0.mono (((((((((((((same_t s6).trans (same_t s13)).trans (same_t s20)).trans st22).trans (same_t s25)).trans (same_t s28)).trans (same_t s31)).trans (same_t s37)).trans (same_t s47)).trans st51).trans (same_t s58)).trans (same_t s59)).trans (same_t s60))), yv141, yt4_0, yt142, (tab_mono ((((((((((((((same_t s4).trans (same_t s6)).trans (same_t s13)).trans (same_t s20)).trans st22).trans (same_t s25)).trans (same_t s28)).trans (same_t s31)).trans (same_t s37)).trans (same_t s47)).trans st51).trans (same_t s58)).trans (same_t s59)).trans (same_t s60)) htb1), fun H61 s61 => ?_⟩
      refine ⟨y8, y139, g9, g140, 75, rfl, (yv4_0.mono ((((((((((((((same_t s6).trans (same_t s13)).trans (same_t s20)).trans st22).trans (same_t s25)).trans (same_t s28)).trans (same_t s31)).trans (same_t s37)).trans (same_t s47)).trans st51).trans (same_t s58)).trans (same_t s59)).trans (same_t s60)).trans (same_t s61))), (yv141.mono (same_t s61)), yq4_0.mono (by decide), yq146.mono (by decide), by decide, by decide, Nat.lt_of_le_of_lt yl4_0 (by decide), Nat.lt_of_le_of_lt yl147 (by decide), ?_⟩
      intro y148 g149 H62 s62 yv150 yt151 ye152 yq153 yl154
      have yl154 : g149.length ≤ 8 := Nat.le_trans yl154 (Nat.max_le.mpr ⟨Nat.le_trans yl4_0 (by decide), Nat.le_trans yl147 (by decide)⟩)
      refine ⟨v1, rfl, y148, v1, g149, r1, rfl, yv150, (hv1.mono ((((((((((((((((same_t s4).trans (same_t s6)).trans (same_t s13)).trans (same_t s20)).trans st22).trans (same_t s25)).trans (same_t s28)).trans (same_t s31)).trans (same_t s37)).trans (same_t s47)).trans st51).trans (same_t s58)).trans (same_t s59)).trans (same_t s60)).trans (same_t s61)).trans (same_t s62))), yt151, ht1, hn1, (tab_mono ((((((((((((((((same_t s4).trans (same_t s6)).trans (same_t s13)).trans (same_t s20)).trans st22).trans (same_t s25)).trans (same_t s28)).trans (same_t s31)).trans (same_t s37)).trans (same_t s47)).trans st51).trans (same_t s58)).trans (same_t s59)).trans (same_t s60)).trans (same_t s61)).trans (same_t s62)) htb1), fun H63 s63 => ?_⟩
      refine ⟨y148, v1, g149, r1, 151, 4, rfl, (yv150.mono (same_t s63)), (hv1.mono (((((((((((((((((same_t s4).trans (same_t s6)).trans (same_t s13)).trans (same_t s20)).trans st22).trans (same_t s25)).trans (same_t s28)).trans (same_t s31)).trans (same_t s37)).trans (same_t s47)).trans st51).trans (same_t s58)).trans (same_t s59)).trans (same_t s60)).trans (same_t s61)).trans (same_t s62)).trans (same_t s63))), ht1, hn1, yq153, hq1, Nat.lt_of_le_of_lt yl154 (by decide), Nat.lt_of_le_of_lt hl1 (by decide), bSplit_le yl154 hl1 (by decide), ?_⟩
      intro t64 v64 w64 q64 r64 H64 s64 ht64 hv64 hw64 tq64 tr64 ev64 lt64 lq64 lr64 zq64 zr64
      have zq64 : Qs 1557 q64 := zq64.mono (bSplit_le yl154 hl1 (by decide))
      have zr64 : Qs 1557 r64 := zr64.mono (bSplit_le yl154 hl1 (by decide))
      have lq64 : q64.length ≤ 8 := Nat.le_trans lq64 yl154
      have lr64 : r64.length ≤ 8 := Nat.le_trans lr64 yl154
      have rp156 : Rp K H64 (V.ref t64) (.tuple [(dRw q64), (dRw r64)]) := (Rp.tup (samet_seqT (SameT.refl _) ht64) (RpA.cons (rp_rw hv64) (RpA.cons (rp_rw hw64) RpA.nil)))
      have ok155 : Okd (.tuple [(dRw q64), (dRw r64)]) := (((sz_rw (zq64.mono (by decide)) (Nat.le_trans lq64 (by decide))).cons ((sz_rw (zr64.mono (by decide)) (Nat.le_trans lr64 (by decide))).cons SzA.nil)).tup).ok (by decide) (by decide)
      refine ⟨t64, _, rfl, rp156, ok155.1, ok155.2.1, ok155.fits, ?_⟩
      obtain ⟨sx157, hx158⟩ : ∃ x, PyData.shown (.tuple [(dRw q64), (dRw r64)]) = x := ⟨_, rfl⟩
      rw [hx158]
      refine ⟨v2, rfl, y21, rfl, v2, y21, r2, g21, rfl, (yv6_0a.mono ((((((((((((((((same_t s13).trans (same_t s20)).trans st22).trans (same_t s25)).trans (same_t s28)).trans (same_t s31)).trans (same_t s37)).trans (same_t s47)).trans st51).trans (same_t s58)).trans (same_t s59)).trans (same_t s60)).trans (same_t s61)).trans (same_t s62)).trans (same_t s63)).trans (same_t s64))), (yv22_0.mono (((((((((((((same_t s25).trans (same_t s28)).trans (same_t s31)).trans (same_t s37)).trans (same_t s47)).trans st51).trans (same_t s58)).trans (same_t s59)).trans (same_t s60)).trans (same_t s61)).trans (same_t s62)).trans (same_t s63)).trans (same_t s64))), yt6_0a, yt22_0, (tab_mono ((((((((((((((((((same_t s4).trans (same_t s6)).trans (same_t s13)).trans (same_t s20)).trans st22).trans (same_t s25)).trans (same_t s28)).trans (same_t s31)).trans (same_t s37)).trans (same_t s47)).trans st51).trans (same_t s58)).trans (same_t s59)).trans (same_t s60)).trans (same_t s61)).trans (same_t s62)).trans (same_t s63)).trans (same_t s64)) htb1), fun H65 s65 => ?_⟩
      refine ⟨v2, y21, r2, g21, 4, rfl, (yv6_0a.mono (((((((((((((((((same_t s13).trans (same_t s20)).trans st22).trans (same_t s25)).trans (same_t s28)).trans (same_t s31)).trans (same_t s37)).trans (same_t s47)).trans st51).trans (same_t s58)).trans (same_t s59)).trans (same_t s60)).trans (same_t s61)).trans (same_t s62)).trans (same_t s63)).trans (same_t s64)).trans (same_t s65))), (yv22_0.mono ((((((((((((((same_t s25).trans (same_t s28)).trans (same_t s31)).trans (same_t s37)).trans (same_t s47)).trans st51).trans (same_t s58)).trans (same_t s59)).trans (same_t s60)).trans (same_t s61)).trans (same_t s62)).trans (same_t s63)).trans (same_t s64)).trans (same_t s65))), yq6_0a.mono (by decide), yq22_0.mono (by decide), by decide, by decide, Nat.lt_of_le_of_lt yl6_0a (by decide), Nat.lt_of_le_of_lt yl22_0 (by decide), ?_⟩
      intro y159 g160 H66 s66 yv161 yt162 ye163 yq164 yl165
      have yl165 : g160.length ≤ 5 := Nat.le_trans yl165 (Nat.max_le.mpr ⟨Nat.le_trans yl6_0a (by decide), Nat.le_trans yl22_0 (by decide)⟩)
      have du166 : q64 = g160 ∧ r64 = r3 := div_unique ht1 hn1 tq64 yt162 tr64 yt6_0b lt64 hlt fun x => (by have h0 := ev64 x; have h1 := ye152 x; have h2 := ye143 x; have h3 := ye4_0 x; have h4 := ye163 x; grind)
      have hc167 : RwT K H66 y159 q64 := du166.1.symm ▸ yv161
      have hc168 : RwT K H6 v3 r64 := du166.2.symm ▸ yv6_0b
      refine ⟨v3, rfl, sz_of 2 rfl (by decide), fun p169 hp170 => ?_⟩
      have s67 := same_new (o := (.tup [y159, v3])) hp170
      have e67 : upd H66 p169 (.tup [y159, v3]) p169 = some (.tup [y159, v3]) := upd_same
      generalize upd H66 p169 (.tup [y159, v3]) = H67 at s67 e67
      have rp172 : Rp K H67 (V.ref p169) (.tuple [(dRw q64), (dRw r64)]) := (Rp.tup (samet_seqT (SameT.refl _) (SqT.of (K := K) e67)) (RpA.cons (rp_rw (hc167.mono (same_t s67))) (RpA.cons (rp_rw (hc168.mono (((((((((((((((((((same_t s13).trans (same_t s20)).trans st22).trans (same_t s25)).trans (same_t s28)).trans (same_t s31)).trans (same_t s37)).trans (same_t s47)).trans st51).trans (same_t s58)).trans (same_t s59)).trans (same_t s60)).trans (same_t s61)).trans (same_t s62)).trans (same_t s63)).trans (same_t s64)).trans (same_t s65)).trans (same_t s66)).trans (same_t s67)))) RpA.nil)))
      have ok171 : Okd (.tuple [(dRw q64), (dRw r64)]) := (((sz_rw (zq64.mono (by decide)) (Nat.le_trans lq64 (by decide))).cons ((sz_rw (zr64.mono (by decide)) (Nat.le_trans lr64 (by decide))).cons SzA.nil)).tup).ok (by decide) (by decide)
      refine ⟨p169, _, rfl, rp172, ok171.1, ok171.2.1, ok171.fits, ?_⟩
      rw [hx158]
      refine ⟨rfl, ?_⟩
      rw [decide_eq_true rfl]
      exact q _ (but_trans (but_trans (but_trans (but_trans (but_trans (but_trans (but_trans (but_trans (but_trans (but_trans (but_trans (but_trans (but_trans (but_trans (but_trans (but_trans (but_trans (but_trans (but_trans (but_trans (but_trans b1 (same_but a s4)) (same_but a s6)) (same_but a s13)) (same_but a s20)) b22) (same_but a s25)) (same_but a s28)) (same_but a s31)) (same_but a s37)) (same_but a s47)) b51) (same_but a s58)) (same_but a s59)) (same_but a s60)) (same_but a s61)) (same_but a s62)) (same_but a s63)) (same_but a s64)) (same_but a s65)) (same_but a s66)) (same_but a s67))
    refine ⟨_, (pss_cons (ps_par3 (i := 1) (j := 2) (l := 3) (by rfl) nd rfl rfl rfl (by decide) (by decide) (by decide) rfl rfl rfl (pa_cons (pe_d D_law_divisor_row (hr.mono (by decide)) rfl (pa_cons (pv 0) (pa_cons pe_int pa_nil))) (pa_cons (pe_d D_law_drawn (hr.mono (by decide)) rfl (pa_cons (pv 0) (pa_cons pe_int pa_nil))) (pa_cons (pe_d D_law_drawn (hr.mono (by decide)) rfl (pa_cons (pv 0) (pa_cons pe_int pa_nil))) pa_nil))) (by rfl))
        (pss_cons (ps_set (i := 3) nd rfl (Or.inl rfl) (pe_ifExp (pt_cmpR op_gt (pe_d D_law_pull (hr.mono (by decide)) rfl (pa_cons (pv 0) (pa_cons pe_int pa_nil))) pe_int (nomark _)) (pe_d D_law_trim (hr.mono (by decide)) rfl (pa_cons (pe_slice sl_tupA (pv 3) po_none (po_some (pe_op op_sub (pe_callB call_len_seq (by rfl) T.n_len (by decide +kernel) (pa_cons (pv 1) pa_nil)) pe_int))) pa_nil)) (pe_tup pa_nil))) h2)), ?_⟩
    refine seq_cut (fun σ' H' => ∃ (y1 : V) (g1 : List Rat) (y2 : V) (g2 : List Rat) (y3 : V) (g3 : List Rat), σ' = [some (V.ref a), some y1, some y2, some y3, none, none, none, none, none] ∧ RlAt a H' ∧ But a H H' ∧ (RwT K H' y1 g1) ∧ (Tr g1) ∧ (Qs 4 g1) ∧ (g1.length ≤ 4) ∧ (g1 ≠ []) ∧ (RwT K H' y2 g2) ∧ (Tr g2) ∧ (Qs 4 g2) ∧ (g2.length ≤ 4) ∧ (RwT K H' y3 g3) ∧ (Tr g3) ∧ (Qs 4 g3) ∧ (g3.length ≤ 3)) (fun nx hnx => ?_) ?_
    · refine ⟨V.ref a, rfl, a, 4, rfl, hR, by decide, by decide, ?_⟩
      intro y1 g1 H1 hR1 b1 yv1 yt1 yn1 yq1 yl1
      have st1 := but_samet hR b1
      refine ⟨V.ref a, rfl, a, 4, rfl, hR1, by decide, ?_⟩
      intro y2 g2 H2 hR2 b2 yv2 yt2 yq2 yl2
      have st2 := but_samet hR1 b2
      refine ⟨V.ref a, rfl, a, 3, rfl, hR2, by decide, ?_⟩
      intro y3 g3 H3 hR3 b3 yv3 yt3 yq3 yl3
      have st3 := but_samet hR2 b3
      refine ⟨_, _, _, rfl, ?_⟩
      exact hnx _ _ ⟨y1, g1, y2, g2, y3, g3, rfl, hR3, (but_trans (but_trans b1 b2) b3), (yv1.mono (st2.trans st3)), yt1, yq1, yl1, yn1, (yv2.mono st3), yt2, yq2, yl2, yv3, yt3, yq3, yl3⟩
    rintro _ H4 ⟨y1, g1, y2, g2, y3, g3, rfl, hR4, b4, yv4_0, yt4_0, yq4_0, yl4_0, yn4_0, yv4_1, yt4_1, yq4_1, yl4_1, yv4_2, yt4_2, yq4_2, yl4_2⟩
    have st4 := but_samet hR b4
    refine seq_cut (fun σ' H' => ∃ (v9 : V) (g9 : List Rat), σ' = [some (V.ref a), some y1, some y2, some v9, none, none, none, none, none] ∧ RlAt a H' ∧ But a H4 H' ∧ (RwT K H' v9 g9) ∧ (Tr g9) ∧ (Qs 4 g9) ∧ (g9.length ≤ 3) ∧ (g9.length < g1.length)) (fun nx hnx => ?_) ?_
    · refine ⟨V.ref a, rfl, a, 3, rfl, hR4, by decide, by decide, ?_⟩
      intro d5 H5 d05 d15 hR5 b5
      have st5 := but_samet hR4 b5
      refine ⟨d5, 0, rfl, rfl, _, rfl, ?_⟩
      refine if_join (fun v H' => ∃ r, Same H5 H' ∧ RwT K H' v r ∧ Tr r ∧ Qs 4 r ∧ r.length ≤ 3 ∧ r.length < g1.length) (fun _ Q' k => ?_) (fun _ Q' k => ?_) ?_
      · have k1 := (yv4_0.mono st5)
        obtain ⟨a2, us2, e2, hw2, hA2⟩ := k1
        have l2 := hA2.length
        have p2 := List.length_pos_iff.mpr yn4_0
        have hw2' : SqL K H5 a2 us2 ∨ SqT K H5 a2 us2 := Or.inr hw2
        refine ⟨y3, rfl, y1, rfl, a2, us2, (by rw [e2]), hw2', _, _, rfl, rfl, _, rfl, ?_⟩
        rw [show ((us2.length : Int) - 1) = ((us2.length - 1 : Nat) : Int) by omega]
        refine rSlA_takeW (yv4_2.mono st5) fun v H5 s5 hv5 => ?_
        obtain ⟨l5, us5, rfl, h5, hA5⟩ := hv5
        have L5 := hA5.length
        rw [List.length_take] at L5
        have L6 := yl4_2
        refine ⟨l5, us5, _, rfl, h5, hA5, by omega, fun v6 H6 m s6 ht6 _ hv6 => ?_⟩
        exact k _ _ ⟨_, s5.trans s6, hv6, ht6, ((yq4_2).take _).take _, by simp only [List.length_take]; omega, by simp only [List.length_take]; omega⟩
      · exact ⟨sz_of 0 rfl (by decide), fun p hp => k _ _ ⟨[], same_new hp, rwt_nil (SqT.of upd_same), tr_nil, (fun _ h => by cases h), Nat.zero_le _, List.length_pos_iff.mpr yn4_0⟩⟩
      rintro v9 H6 ⟨g9, s6, yv9, yt9, yq9, yl9, yw9⟩
      exact hnx _ _ ⟨v9, g9, rfl, (same_rl hR5 s6), (but_trans b5 (same_but a s6)), yv9, yt9, yq9, yl9, yw9⟩
    rintro _ H7 ⟨v9, g9, rfl, hR7, b7, yv7_0, yt7_0, yq7_0, yl7_0, yw7_0⟩
    have st7 := but_samet hR4 b7
    exact key y1 y2 v9 g1 g2 g9 _ hR7 (but_trans b4 b7) (tab_mono (st4.trans st7) htb) (yv4_0.mono st7) (yv4_1.mono st7) yv7_0 yt4_0 yt4_1 yt7_0 yn4_0 yq4_0 yq4_1 yq7_0 yl4_0 yl4_1 yl7_0 yw7_0
end
end Vx
namespace Vx
def at0 (l : List Rat) (i : Nat) : Rat := l.getD i 0
theorem at0_map {f : Nat → Rat} {n i : Nat} (h : i < n) : at0 ((List.range n).map f) i = f i := by
  unfold at0
  rw [List.getD_eq_getElem?_getD, List.getElem?_map, List.getElem?_range h]
  rfl
theorem at0_out {l : List Rat} {i : Nat} (h : l.length ≤ i) : at0 l i = 0 := by
  unfold at0
  rw [List.getD_eq_getElem?_getD, List.getElem?_eq_none h]
  rfl
theorem at0_some {l : List Rat} {i : Nat} {c : Rat} (h : l[i]? = some c) : at0 l i = c := by
  unfold at0
  rw [List.getD_eq_getElem?_getD, h]
  rfl
theorem at0_get {l : List Rat} {i : Nat} (h : i < l.length) : l[i]? = some (at0 l i) := by
  unfold at0
  rw [List.getD_eq_getElem?_getD, List.getElem?_eq_getElem h]
  rfl
theorem at0_mem {l : List Rat} {i : Nat} (h : i < l.length) : at0 l i ∈ l := List.mem_of_getElem? (at0_get h)
theorem ext0 {l m : List Rat} (h : l.length = m.length) (e : ∀ i, i < l.length → at0 l i = at0 m i) : l = m := by
  refine List.ext_getElem? fun i => ?_
  by_cases hi : i < l.length
  · rw [at0_get hi, at0_get (by omega), e i hi]
  · rw [List.getElem?_eq_none (by omega), List.getElem?_eq_none (by omega)]
def smul (c : Rat) (l : List Rat) : List Rat := l.map (c * ·)
theorem smul_len (c : Rat) (l : List Rat) : (smul c l).length = l.length := List.length_map _
theorem at0_smul (c : Rat) (l : List Rat) (i : Nat) : at0 (smul c l) i = c * at0 l i := by
  by_cases h : i < l.length
  · refine at0_some ?_
    unfold smul
    rw [List.getElem?_map, at0_get h]
    rfl
  · rw [at0_out (by rw [smul_len]; omega), at0_out (by omega)]
    grind
theorem smul_smul (c d : Rat) (l : List Rat) : smul c (smul d l) = smul (c * d) l := ext0 (by simp only [smul_len]) fun i _ => by
  simp only [at0_smul]
  grind
theorem smul_one (l : List Rat) : smul 1 l = l := ext0 (smul_len _ _) fun i _ => by
  rw [at0_smul]
  grind
/-! one bend more, one bend less -/
def up (k : Rat) (l : List Rat) : List Rat := (List.range (l.length + 1)).map fun i => at0 l i + k * at0 l (l.length - i)
def upR : List Rat → List Rat
  | [] => [1]
  | k :: ks => up k (upR ks)
def nx (l : List Rat) : List Rat := (List.range (l.length - 1)).map fun i => at0 l 0 * at0 l i - at0 l (l.length - 1) * at0 l (l.length - 1 - i)
def fb : Nat → List Rat → Option (List Rat)
  | 0, _ => some []
  | n + 1, l => if at0 l 0 * at0 l 0 ≤ at0 l (l.length - 1) * at0 l (l.length - 1) then none else (fb n (nx l)).map (at0 l (l.length - 1) / at0 l 0 :: ·)
theorem fb_succ (n : Nat) (l : List Rat) : fb (n + 1) l = if at0 l 0 * at0 l 0 ≤ at0 l (l.length - 1) * at0 l (l.length - 1) then none else (fb n (nx l)).map (at0 l (l.length - 1) / at0 l 0 :: ·) := rfl
theorem up_len (k : Rat) (l : List Rat) : (up k l).length = l.length + 1 := by
  unfold up
  rw [List.length_map, List.length_range]
theorem nx_len (l : List Rat) : (nx l).length = l.length - 1 := by
  unfold nx
  rw [List.length_map, List.length_range]
theorem upR_len : ∀ ks : List Rat, (upR ks).length = ks.length + 1
  | [] => rfl
  | k :: ks => by
    show (up k (upR ks)).length = _
    rw [up_len, upR_len ks]
    rfl
theorem at0_up {k : Rat} {l : List Rat} {i : Nat} (h : i ≤ l.length) : at0 (up k l) i = at0 l i + k * at0 l (l.length - i) := at0_map (by omega)
theorem at0_nx {l : List Rat} {i : Nat} (h : i < l.length - 1) : at0 (nx l) i = at0 l 0 * at0 l i - at0 l (l.length - 1) * at0 l (l.length - 1 - i) := at0_map h
theorem up_head {k : Rat} {l : List Rat} : at0 (up k l) 0 = at0 l 0 := by
  rw [at0_up (Nat.zero_le _), Nat.sub_zero, at0_out (Nat.le_refl l.length)]
  grind
theorem up_last {k : Rat} {l : List Rat} : at0 (up k l) l.length = k * at0 l 0 := by
  rw [at0_up (Nat.le_refl _), Nat.sub_self, at0_out (Nat.le_refl l.length)]
  grind
theorem upR_head : ∀ ks : List Rat, at0 (upR ks) 0 = 1
  | [] => rfl
  | k :: ks => by
    show at0 (up k (upR ks)) 0 = 1
    rw [up_head, upR_head ks]
theorem nx_smul {c : Rat} {l : List Rat} : nx (smul c l) = smul (c * c) (nx l) := ext0 (by rw [nx_len, smul_len, smul_len, nx_len]) fun i hi => by
  rw [nx_len, smul_len] at hi
  rw [at0_nx (by rw [smul_len]; exact hi), at0_smul, at0_smul, at0_smul, at0_smul, at0_smul, at0_nx hi, smul_len]
  grind
theorem sq_scale {c x y : Rat} (hc : c ≠ 0) : (c * x * (c * x) ≤ c * y * (c * y)) ↔ (x * x ≤ y * y) := by
  have hp : 0 < c * c := by
    rcases (by grind : c < 0 ∨ 0 < c) with h | h
    · have := Rat.mul_pos (show 0 < -c by grind) (show 0 < -c by grind)
      grind
    · exact Rat.mul_pos h h
  have e1 : c * x * (c * x) = (c * c) * (x * x) := by grind
  have e2 : c * y * (c * y) = (c * c) * (y * y) := by grind
  rw [e1, e2]
  constructor
  · intro h
    refine Classical.byContradiction fun z => ?_
    have h1 : 0 < x * x - y * y := by grind
    have h2 := Rat.mul_pos hp h1
    grind
  · intro h
    exact Rat.mul_le_mul_of_nonneg_left h (Rat.le_of_lt hp)
theorem fb_smul : ∀ (n : Nat) {c : Rat} (l : List Rat), c ≠ 0 → fb n (smul c l) = fb n l
  | 0, _, _, _ => rfl
  | n + 1, c, l, hc => by
    rw [fb_succ, fb_succ, at0_smul, at0_smul, smul_len, nx_smul, fb_smul n (nx l) (by grind : c * c ≠ 0)]
    have e : c * at0 l (l.length - 1) / (c * at0 l 0) = at0 l (l.length - 1) / at0 l 0 := by
      by_cases h : at0 l 0 = 0
      · rw [h]
        grind
      · grind
    rw [e]
    by_cases h : at0 l 0 * at0 l 0 ≤ at0 l (l.length - 1) * at0 l (l.length - 1)
    · rw [if_pos h, if_pos ((sq_scale hc).mpr h)]
    · rw [if_neg h, if_neg fun z => h ((sq_scale hc).mp z)]
theorem nx_up {k : Rat} {l : List Rat} (hl : at0 l 0 = 1) (hn : 0 < l.length) : nx (up k l) = smul (1 - k * k) l := ext0 (by rw [nx_len, up_len, smul_len]; omega) fun i hi => by
  rw [nx_len, up_len, Nat.add_sub_cancel] at hi
  rw [at0_nx (by rw [up_len]; omega), up_len, Nat.add_sub_cancel, up_head, up_last, hl, at0_up (by omega), at0_up (by omega), at0_smul, show l.length - (l.length - i) = i by omega]
  grind
theorem fb_up {n : Nat} {k : Rat} {l : List Rat} (hl : at0 l 0 = 1) (hn : l.length = n + 1) (hk : k * k < 1) : fb (n + 1) (up k l) = (fb n l).map (k :: ·) := by
  rw [fb_succ, up_len, Nat.add_sub_cancel, up_head, up_last, hl, nx_up hl (by omega), fb_smul n l (by grind), if_neg (by grind)]
  have : k * 1 / 1 = k := by grind
  rw [this]
theorem fb_upR : ∀ ks : List Rat, (∀ k ∈ ks, k * k < 1) → fb ks.length (upR ks) = some ks
  | [], _ => rfl
  | k :: ks, h => by
    show fb (ks.length + 1) (up k (upR ks)) = _
    rw [fb_up (upR_head ks) (upR_len ks) (h k List.mem_cons_self), fb_upR ks fun j hj => h j (List.mem_cons_of_mem _ hj)]
    rfl
/-- the next row, led -/
def dn (l : List Rat) : List Rat := smul (1 / (1 - at0 l (l.length - 1) * at0 l (l.length - 1))) (nx l)
theorem dn_len (l : List Rat) : (dn l).length = l.length - 1 := by
  unfold dn
  rw [smul_len, nx_len]
theorem dn_head {l : List Rat} (hl : at0 l 0 = 1) (hn : 2 ≤ l.length) (hk : at0 l (l.length - 1) * at0 l (l.length - 1) < 1) : at0 (dn l) 0 = 1 := by
  unfold dn
  rw [at0_smul, at0_nx (by omega), hl, Nat.sub_zero]
  grind
theorem up_dn {l : List Rat} (hl : at0 l 0 = 1) (hn : 2 ≤ l.length) (hk : at0 l (l.length - 1) * at0 l (l.length - 1) < 1) : up (at0 l (l.length - 1)) (dn l) = l := ext0 (by rw [up_len, dn_len]; omega) fun i hi => by
  rw [up_len, dn_len] at hi
  rw [at0_up (by rw [dn_len]; omega), dn_len]
  by_cases h0 : i = 0
  · subst h0
    rw [dn_head hl hn hk, at0_out (l := dn l) (by rw [dn_len]; omega), hl]
    grind
  · by_cases h1 : i = l.length - 1
    · rw [h1, at0_out (l := dn l) (by rw [dn_len]; omega), Nat.sub_self, dn_head hl hn hk]
      grind
    · unfold dn
      rw [at0_smul, at0_smul, at0_nx (by omega), at0_nx (by omega), hl, show l.length - 1 - (l.length - 1 - i) = i by omega]
      have hk' : 1 - at0 l (l.length - 1) * at0 l (l.length - 1) ≠ 0 := by grind
      grind
theorem fb_dn {n : Nat} {l : List Rat} (hl : at0 l 0 = 1) (hn : l.length = n + 2) : fb (n + 1) l = if 1 ≤ at0 l (l.length - 1) * at0 l (l.length - 1) then none else (fb n (dn l)).map (at0 l (l.length - 1) :: ·) := by
  rw [fb_succ, hl]
  have e : at0 l (l.length - 1) / 1 = at0 l (l.length - 1) := by grind
  have e2 : (1 : Rat) * 1 = 1 := by grind
  rw [e, e2]
  by_cases h : 1 ≤ at0 l (l.length - 1) * at0 l (l.length - 1)
  · rw [if_pos h, if_pos h]
  · rw [if_neg h, if_neg h]
    have h2 : (1 : Rat) / (1 - at0 l (l.length - 1) * at0 l (l.length - 1)) ≠ 0 := by grind
    unfold dn
    rw [fb_smul n _ h2]
theorem fb_len : ∀ (n : Nat) (l bs : List Rat), fb n l = some bs → bs.length = n
  | 0, _, bs, h => by
    unfold fb at h
    cases h
    rfl
  | n + 1, l, bs, h => by
    rw [fb_succ] at h
    split at h
    · cases h
    · obtain ⟨cs, h1, rfl⟩ := Option.map_eq_some_iff.mp h
      rw [List.length_cons, fb_len n _ _ h1]
/-- bits of the rows on the way down -/
def bitsD : Nat → Nat → Nat
  | 0, b => b
  | i + 1, b => bitsD i (5 * b + 3)
theorem qs_at0 {b : Nat} {l : List Rat} (h : Qs b l) (hb : 0 < b) (i : Nat) : Qz b (at0 l i) := by
  by_cases hi : i < l.length
  · exact h _ (at0_mem hi)
  · rw [at0_out (by omega)]
    exact qz0 hb
theorem qz_inv {b : Nat} {q : Rat} (h : Qz b q) (h0 : q ≠ 0) : Qz b (1 / q) := by
  have e : (1 : Rat) / q = Rat.divInt q.den q.num := by
    have hn : q.num ≠ 0 := fun z => h0 (Rat.num_eq_zero.mp z)
    have e1 : q = (q.num : Rat) / ((q.den : Int) : Rat) := by
      rw [← Rat.divInt_eq_div]
      exact (fr_self q).symm
    have h1 : (q.num : Rat) ≠ 0 := by exact_mod_cast hn
    have h2 : ((q.den : Int) : Rat) ≠ 0 := by have := q.den_nz; exact_mod_cast this
    rw [Rat.divInt_eq_div]
    have key : ∀ q n d : Rat, n ≠ 0 → d ≠ 0 → q = n / d → 1 / q = d / n := by
      intro q n d a b c
      subst c
      grind
    exact key _ _ _ h1 h2 e1
  rw [e]
  exact qz_div h.dd h.n fun z => h0 (Rat.num_eq_zero.mp z)
theorem qs_dn {b : Nat} {l : List Rat} (h : Qs b l) (hb : 0 < b) (hl : at0 l 0 = 1) (hk : ¬ 1 ≤ at0 l (l.length - 1) * at0 l (l.length - 1)) : Qs (5 * b + 3) (dn l) := fun c hc => by
  have q1 := qs_at0 h hb (l.length - 1)
  have q2 : Qz (2 * b + 2) (1 / (1 - at0 l (l.length - 1) * at0 l (l.length - 1))) := (qz_inv (Qz.sub (qz1 (Nat.one_pos)) (Qz.mul q1 q1)) (by grind)).mono (by omega)
  unfold dn smul at hc
  obtain ⟨d, hd, rfl⟩ := List.mem_map.mp hc
  unfold nx at hd
  obtain ⟨i, _, rfl⟩ := List.mem_map.mp hd
  rw [hl]
  have e : (1 : Rat) * at0 l i = at0 l i := by grind
  rw [e]
  exact (Qz.mul q2 (Qz.sub (qs_at0 h hb i) (Qz.mul q1 (qs_at0 h hb _)))).mono (by omega)
/-- rows of the last bends: those on the way down -/
theorem fb_way : ∀ (n : Nat) (l bs : List Rat) (b : Nat), 0 < b → at0 l 0 = 1 → l.length = n + 1 → Qs b l → fb n l = some bs → upR bs = l ∧ (∀ k ∈ bs, k * k < 1) ∧ (∀ i, i ≤ n → Qs (bitsD i b) (upR (bs.drop i))) ∧ ∀ i, i < n → Qz (bitsD i b) (at0 bs i)
  | 0, l, bs, b, hb, hl, hn, hq, h => by
    unfold fb at h
    cases h
    have e : l = [1] := by
      match l, hn, hl with
      | [c], _, hl =>
        have : c = 1 := hl
        rw [this]
    subst e
    refine ⟨rfl, (fun k hk => by cases hk), fun i hi => ?_, fun i hi => absurd hi (Nat.not_lt_zero _)⟩
    have : i = 0 := by omega
    subst this
    exact hq
  | n + 1, l, bs, b, hb, hl, hn, hq, h => by
    rw [fb_dn hl hn] at h
    split at h
    · cases h
    · rename_i hk
      obtain ⟨cs, h1, rfl⟩ := Option.map_eq_some_iff.mp h
      have hk' : at0 l (l.length - 1) * at0 l (l.length - 1) < 1 := by grind
      obtain ⟨e1, e2, e3, e4⟩ := fb_way n (dn l) cs (5 * b + 3) (by omega) (dn_head hl (by omega) hk') (by rw [dn_len]; omega) (qs_dn hq hb hl hk) h1
      refine ⟨?_, fun k hk2 => ?_, fun i hi => ?_, fun i hi => ?_⟩
      · show up _ (upR cs) = l
        rw [e1, up_dn hl (by omega) hk']
      · rcases List.mem_cons.mp hk2 with rfl | h'
        · exact hk'
        · exact e2 k h'
      · cases i with
        | zero =>
          show Qs b (up _ (upR cs))
          rw [e1, up_dn hl (by omega) hk']
          exact hq
        | succ i => exact e3 i (by omega)
      · cases i with
        | zero =>
          show Qz b (at0 l (l.length - 1))
          exact qs_at0 hq hb _
        | succ i => exact e4 i (by omega)
theorem tr_upR {k : Rat} {ks : List Rat} (hk : k ≠ 0) : Tr (upR (k :: ks)) := fun hn => by
  rw [List.getLast_eq_getElem]
  have e : (upR (k :: ks)).length - 1 = (upR ks).length := by
    show (up k (upR ks)).length - 1 = _
    rw [up_len, Nat.add_sub_cancel]
  have h : (upR (k :: ks))[(upR (k :: ks)).length - 1]? = some (at0 (upR (k :: ks)) ((upR (k :: ks)).length - 1)) := at0_get (by have := List.length_pos_iff.mpr hn; omega)
  rw [List.getElem?_eq_getElem (by have := List.length_pos_iff.mpr hn; omega)] at h
  have h2 := Option.some.inj h
  rw [h2, e]
  show at0 (up k (upR ks)) (upR ks).length ≠ 0
  rw [up_last, upR_head]
  grind
/-! rows over one divisor -/
def Cd (a b : Nat) (l : List Rat) : Prop := ∃ D : Nat, 0 < D ∧ D ≤ 2 ^ a ∧ ∀ c ∈ l, ∃ n : Int, c * (D : Rat) = (n : Rat) ∧ n.natAbs ≤ 2 ^ b
theorem cd_at {a b : Nat} {l : List Rat} {D : Nat} (h : ∀ c ∈ l, ∃ n : Int, c * (D : Rat) = (n : Rat) ∧ n.natAbs ≤ 2 ^ b) (i : Nat) : ∃ n : Int, at0 l i * (D : Rat) = (n : Rat) ∧ n.natAbs ≤ 2 ^ b := by
  by_cases hi : i < l.length
  · exact h _ (at0_mem hi)
  · rw [at0_out (by omega)]
    exact ⟨0, by push_cast; grind, Nat.zero_le _⟩
theorem cd_up {a b : Nat} {k : Rat} {l : List Rat} (h : Cd a b l) (hk : k.den ≤ 8) (hk2 : k.num.natAbs < k.den) : Cd (a + 3) (b + 4) (up k l) := by
  obtain ⟨D, h0, h1, h2⟩ := h
  have hd := k.den_pos
  refine ⟨D * k.den, Nat.mul_pos h0 hd, ?_, fun c hc => ?_⟩
  · rw [Nat.pow_add]
    exact Nat.mul_le_mul h1 hk
  · unfold up at hc
    obtain ⟨i, _, rfl⟩ := List.mem_map.mp hc
    obtain ⟨n1, e1, g1⟩ := cd_at (a := a) h2 i
    obtain ⟨n2, e2, g2⟩ := cd_at (a := a) h2 (l.length - i)
    refine ⟨n1 * k.den + k.num * n2, ?_, ?_⟩
    · have ek : k * (k.den : Rat) = (k.num : Rat) := by
        have : k = (k.num : Rat) / ((k.den : Int) : Rat) := by
          rw [← Rat.divInt_eq_div]
          exact (fr_self k).symm
        have h3 : ((k.den : Int) : Rat) ≠ 0 := by have := k.den_nz; exact_mod_cast this
        have key : ∀ k n d : Rat, d ≠ 0 → k = n / d → k * d = n := by
          intro k n d a b
          grind
        have := key _ _ _ h3 this
        push_cast at this
        exact this
      push_cast
      grind
    · have p : (n1 * (k.den : Int)).natAbs ≤ 2 ^ b * 8 := by
        rw [Int.natAbs_mul]
        exact Nat.mul_le_mul g1 (by omega)
      have p2 : (k.num * n2).natAbs ≤ 8 * 2 ^ b := by
        rw [Int.natAbs_mul]
        exact Nat.mul_le_mul (by omega) g2
      rw [Nat.pow_add]
      omega
theorem cd_upR : ∀ ks : List Rat, (∀ k ∈ ks, k.den ≤ 8 ∧ k.num.natAbs < k.den) → Cd (3 * ks.length) (4 * ks.length) (upR ks)
  | [], _ => ⟨1, by decide, by decide, fun c hc => ⟨1, by rw [List.mem_singleton.mp hc]; push_cast; grind, by decide⟩⟩
  | k :: ks, h => by
    have := cd_up (cd_upR ks fun j hj => h j (List.mem_cons_of_mem _ hj)) (h k List.mem_cons_self).1 (h k List.mem_cons_self).2
    show Cd _ _ (up k (upR ks))
    rw [List.length_cons, Nat.mul_add, Nat.mul_add]
    exact this
theorem cd_qs {a b c : Nat} {l : List Rat} (h : Cd a b l) (ha : a < c) (hb : b < c) : Qs c l := fun q hq => by
  obtain ⟨D, h0, h1, h2⟩ := h
  obtain ⟨n, e, g⟩ := h2 q hq
  have hD : ((D : Int) : Rat) ≠ 0 := by exact_mod_cast (show (D : Int) ≠ 0 by omega)
  have e2 : q = Rat.divInt n D := by
    rw [Rat.divInt_eq_div]
    have key : ∀ q d n : Rat, d ≠ 0 → q * d = n → q = n / d := by
      intro q d n a b
      grind
    exact key _ _ _ hD (by push_cast; exact e)
  rw [e2]
  have p1 : 2 ^ b < 2 ^ c := Nat.pow_lt_pow_right (by decide) hb
  have p2 : 2 ^ a < 2 ^ c := Nat.pow_lt_pow_right (by decide) ha
  exact qz_div (by omega) (show ((D : Nat) : Int).natAbs < 2 ^ c by rw [Int.natAbs_natCast]; omega) (by omega)
theorem small_sq {k : Rat} (h : k.num.natAbs < k.den) : k * k < 1 := by
  have hd := k.den_pos
  have ek : k = (k.num : Rat) / ((k.den : Int) : Rat) := by
    rw [← Rat.divInt_eq_div]
    exact (fr_self k).symm
  have hdp : (0 : Rat) < ((k.den : Int) : Rat) := by exact_mod_cast (show (0 : Int) < (k.den : Int) by omega)
  have hi : k.num * k.num < (k.den : Int) * (k.den : Int) := by
    have e1 : k.num * k.num = ((k.num.natAbs * k.num.natAbs : Nat) : Int) := (Int.natAbs_mul_self).symm
    rw [e1]
    have := Nat.mul_lt_mul'' h h
    exact_mod_cast this
  have hr : (k.num : Rat) * (k.num : Rat) < ((k.den : Int) : Rat) * ((k.den : Int) : Rat) := by exact_mod_cast hi
  have key : ∀ k n d : Rat, 0 < d → k = n / d → n * n < d * d → k * k < 1 := by
    intro k n d h1 h2 h3
    have e : k * d = n := by grind
    refine Classical.byContradiction fun z => ?_
    have z1 : 0 ≤ k * k - 1 := by grind
    have z2 := Rat.mul_nonneg z1 (Rat.le_of_lt (Rat.mul_pos h1 h1))
    have z3 : (k * d) * (k * d) < d * d := by rw [e]; exact h3
    grind
  exact key _ _ _ hdp ek hr
theorem small_of_sq {k : Rat} (h : k * k < 1) : k.num.natAbs < k.den := by
  refine Classical.byContradiction fun z => ?_
  have hd := k.den_pos
  have ek : k = (k.num : Rat) / ((k.den : Int) : Rat) := by
    rw [← Rat.divInt_eq_div]
    exact (fr_self k).symm
  have hdp : (0 : Rat) < ((k.den : Int) : Rat) := by exact_mod_cast (show (0 : Int) < (k.den : Int) by omega)
  have hi : (k.den : Int) * (k.den : Int) ≤ k.num * k.num := by
    have e1 : k.num * k.num = ((k.num.natAbs * k.num.natAbs : Nat) : Int) := (Int.natAbs_mul_self).symm
    rw [e1]
    have := Nat.mul_le_mul (Nat.le_of_not_lt z) (Nat.le_of_not_lt z)
    exact_mod_cast this
  have hr : ((k.den : Int) : Rat) * ((k.den : Int) : Rat) ≤ (k.num : Rat) * (k.num : Rat) := by exact_mod_cast hi
  have key : ∀ k n d : Rat, 0 < d → k = n / d → d * d ≤ n * n → ¬ k * k < 1 := by
    intro k n d h1 h2 h3 h4
    have e : k * d = n := by grind
    have z1 : 0 < 1 - k * k := by grind
    have z2 := Rat.mul_pos z1 (Rat.mul_pos h1 h1)
    have z3 : d * d ≤ (k * d) * (k * d) := by rw [e]; exact h3
    grind
  exact key _ _ _ hdp ek hr h
end Vx
namespace Vx
open PySem PySem.Spec PyProof.Rows L2
theorem fm_congr {α β : Type} {f g : α → Option β} : ∀ {l : List α}, (∀ a ∈ l, f a = g a) → l.filterMap f = l.filterMap g
  | [], _ => rfl
  | a :: l, h => by
    rw [List.filterMap_cons, List.filterMap_cons, h a List.mem_cons_self, fm_congr fun b hb => h b (List.mem_cons_of_mem _ hb)]
section
variable {prog : Program} {w : World} {A : Around} {E : Value → Shared → Prop} {s : Shared}
theorem sliceApplied_rev {sl : Addr} {vs : Value} {n : Nat} {Q : Int × Int × Nat → Shared → Prop} (hs : s.heap.IsSliceOf sl .none .none vs) (ps : IsPart vs (some (-1)))
    (h : Q ((n : Int) - 1, -1, n) s) : wpAny (model prog w) A (Builtin.Slice.sliceApplied (.ref sl) (pure (n : Int))) Q E s := by
  obtain ⟨os, hos, hcs, hds⟩ := id hs
  unfold Builtin.Slice.sliceApplied Builtin.Slice.sliceFields
  refine wpAny_bind (wpAny_bind (wpAny_field hos hds (x := .none) rfl (wpAny_bind (wpAny_field hos hds (x := .none) rfl (wpAny_bind (wpAny_field hos hds (x := vs) rfl (wpAny_pure ?_)))))))
  refine wpAny_bind (HT.slicePart_ ps ?_)
  show wpAny _ _ (if ((-1 : Int) == 0) = true then _ else _) _ _ s
  rw [if_neg (by decide)]
  refine wpAny_bind (slicePart_none (wpAny_bind (slicePart_none (wpAny_bind (wpAny_pure ?_)))))
  show wpAny _ _ (match Builtin.Slice.sliceAdjust none none (-1) (n : Int) with | (lo, hi) => pure (lo, (-1 : Int), Builtin.Slice.slicePlaces lo hi (-1))) _ _ s
  have e1 : Builtin.Slice.sliceAdjust none none (-1) (n : Int) = ((n : Int) - 1, -1) := by
    unfold Builtin.Slice.sliceAdjust
    simp
  rw [e1]
  show wpAny _ _ (pure ((n : Int) - 1, (-1 : Int), Builtin.Slice.slicePlaces ((n : Int) - 1) (-1) (-1))) _ _ s
  have e2 : Builtin.Slice.slicePlaces ((n : Int) - 1) (-1) (-1) = n := by
    unfold Builtin.Slice.slicePlaces
    simp only [show ¬ ((-1 : Int) > 0) by decide, if_false]
    split
    · rw [show (- -1 : Int) = 1 by decide, Int.ediv_one]
      omega
    · omega
  rw [e2]
  exact wpAny_pure h
theorem pick_rev (xs : Array Value) : ((List.range xs.size).filterMap fun (m : Nat) => xs[(((xs.size : Nat) : Int) - 1 + (m : Int) * -1).toNat]?).toArray = xs.toList.reverse.toArray := by
  have e : ∀ m ∈ List.range xs.size, xs[(((xs.size : Nat) : Int) - 1 + (m : Int) * -1).toNat]? = xs[xs.size - 1 - m]? := fun m hm => by
    have := List.mem_range.mp hm
    have : (((xs.size : Nat) : Int) - 1 + (m : Int) * -1).toNat = xs.size - 1 - m := by omega
    rw [this]
  have e2 : (List.range xs.size).filterMap (fun (m : Nat) => xs[(((xs.size : Nat) : Int) - 1 + (m : Int) * -1).toNat]?) = (List.range xs.size).filterMap (fun m => xs[xs.size - 1 - m]?) :=
    fm_congr e
  rw [e2]
  have e3 : (List.range xs.size).filterMap (fun m => xs[xs.size - 1 - m]?) = ((List.range xs.size).map fun m => xs.size - 1 - m).filterMap (xs[·]?) := by
    rw [List.filterMap_map]
    rfl
  rw [e3, PySem.W.krv_range, List.filterMap_reverse, PySem.W.krv_all]
theorem getItem_tuple_rev {t sl : Addr} {items : Array Value} {vs : Value} {Q : Value → Shared → Prop} (ht : IsTup s.heap t items) (hs : s.heap.IsSliceOf sl .none .none vs) (ps : IsPart vs (some (-1)))
    (h : Q (.ref s.heap.objs.size) { s with heap := s.heap.push { cls := .type "tuple", data := .seq items.toList.reverse.toArray } })
    (hsz : items.size ≤ sizeLine) : wpAny (model prog w) A (getItem (.ref t) (.ref sl)) Q E s := by
  have htake : sizeOk (.seq items.toList.reverse.toArray) := by
    show items.toList.reverse.toArray.size ≤ sizeLine
    rw [List.size_toArray, List.length_reverse, Array.length_toList]
    exact hsz
  obtain ⟨os, hos, hcs, hds⟩ := id hs
  have hTs : s.TypeIs (.ref sl) "slice" := ⟨os, hos, hcs⟩
  unfold getItem
  try with_reducible refine wpAny_holding ?_
  first | refine wpAny_bind (wpAny_pure ?_) | skip
  refine wpAny_bind (wpAny_sequenceKey ht.typeIs (by decide) ?_)
  refine wpAny_bind (wpAny_callSpecial?_slot (name := Str.ofString "__getitem__") ht.typeIs PyProof.Rows.slot_tuple_getitem
    (wpAny_call_entry PyProof.Rows.slot_tuple_getitem ht.typeIs entry_tuple_getitem ?_ (args_tuple_getitem _ _)))
  show wpAny _ _ (Builtin.Tuple.tupleItemsOf (.ref t) >>= _) _ _ s
  refine wpAny_bind (tupleItemsOf_ ht ?_)
  refine wpAny_bind (wpAny_typeOf hTs ?_)
  rw [if_pos (by decide)]
  refine wpAny_bind (sliceApplied_rev hs ps ?_)
  have hno : ¬ ((((items.size : Nat) : Int) - 1 == 0 && (-1 : Int) == 1 && items.size == items.size) = true) := by simp
  show wpAny _ _ (if (((items.size : Nat) : Int) - 1 == 0 && (-1 : Int) == 1 && items.size == items.size) = true then _ else _) _ _ s
  rw [if_neg hno, pick_rev]
  first
    | exact wpAny_bind (m := Builtin.Tuple.tupleExact _) (wpAny_newObj_type (wpAny_pure ⟨_, rfl, wpAny_pure h⟩) htake)
    | exact wpAny_bind (m := Builtin.Tuple.tupleExact _) (wpAny_newObj_type (wpAny_bind (wpAny_pure (wpAny_pure ⟨_, rfl, wpAny_pure h⟩))) htake)
    | exact wpAny_bind (wpAny_bind (m := Builtin.Tuple.tupleExact _) (wpAny_newObj_type (wpAny_pure (wpAny_pure ⟨_, rfl, wpAny_pure h⟩)) htake))
    | exact wpAny_bind (wpAny_bind (m := Builtin.Tuple.tupleExact _) (wpAny_newObj_type (wpAny_pure ⟨_, rfl, wpAny_pure h⟩) htake))
theorem krv_pick0 (items : Array Value) (h : 0 < items.size) : slicePick items none (some 0) (some (-1)) = (items.toList.drop 1).reverse.toArray := by
  have hb : sliceBounds none (some 0) (some (-1)) items.size = ((items.size : Int) - 1, 0, -1) := by
    simp only [sliceBounds, Option.getD_some, show ¬ ((-1 : Int) > 0) by decide, if_false, show ¬ ((0 : Int) < 0) by decide]
    refine Prod.ext rfl (Prod.ext ?_ rfl)
    show max (-1 : Int) (min 0 ((items.size : Int) - 1)) = 0
    omega
  unfold slicePick
  rw [hb]
  show ((sliceRange ((items.size : Int) - 1) 0 (-1)).filterMap (items[·]?)).toArray = _
  have hr : sliceRange ((items.size : Int) - 1) 0 (-1) = (List.range (items.size - 1)).map fun k => items.size - 1 - k := by
    unfold sliceRange
    have h1 : ¬ ((-1 : Int) > 0) := by decide
    by_cases h2 : (items.size : Int) - 1 > 0
    · have e : ((items.size : Int) - 1 - 0 - -1 - 1) / (- -1) = ((items.size - 1 : Nat) : Int) := by
        rw [show (- -1 : Int) = 1 by decide, Int.ediv_one]
        omega
      simp only [h1, if_false, h2, if_true, e, Int.toNat_natCast]
      apply List.map_congr_left
      intro k hk
      have := List.mem_range.mp hk
      omega
    · have e : items.size - 1 = 0 := by omega
      rw [e]
      simp only [h1, if_false, h2, if_false]
      rfl
  rw [hr]
  have e4 : ((List.range (items.size - 1)).map fun k => items.size - 1 - k) = ((List.range (items.size - 1)).map fun k => k + 1).reverse := by
    refine List.ext_getElem? fun i => ?_
    by_cases hi : i < items.size - 1
    · rw [List.getElem?_map, List.getElem?_range hi, List.getElem?_reverse (by simpa using hi)]
      simp only [List.length_map, List.length_range, List.getElem?_map, Option.map_some]
      rw [List.getElem?_range (by omega)]
      simp only [Option.map_some]
      exact congrArg some (by omega)
    · rw [List.getElem?_eq_none (by simp; omega), List.getElem?_eq_none (by simp; omega)]
  rw [e4, List.filterMap_reverse]
  have e5 : ((List.range (items.size - 1)).map fun k => k + 1).filterMap (items[·]?) = items.toList.drop 1 := by
    have := pick_run items 1 (items.size - 1)
    rw [show ((1 + ·) : Nat → Nat) = fun k => k + 1 from funext fun k => Nat.add_comm 1 k] at this
    rw [this, List.take_of_length_le]
    rw [List.length_drop, Array.length_toList]
    omega
  rw [e5]
end
/-! ### as terms -/
def tRevT (K : PySem.W.Frag) (te : TE) : TE := fun σ H Q => te σ H fun x H1 => ∃ a xs, x = .ref a ∧ SqT K H1 a xs ∧ ∀ p, H1 p = none → Q (.ref p) (upd H1 p (.tup xs.reverse))
theorem pe_revT {X : Cx} {e : Expr} {te : TE} {k : Nat} {p1 p2 p3 pos : Pos} (he : PE X e te) : PE X (.Subscript e (.Slice none none (some (.UnaryOp .USub (.Constant (.int 1) k p1) p2)) p3) pos) (tRevT X.K te) := by
  refine ⟨fun pins s σ H Q I h => ?_⟩
  refine Subscript_ (thn (he.run pins s σ H _ I h) fun v s1 ⟨x, H1, I1, r1, q1⟩ => ?_)
  obtain ⟨a, xs, ex, hx, q⟩ := q1
  subst ex
  cases r1
  have hst : PO X (some (.UnaryOp .USub (.Constant (.int 1) k p1) p2)) (tPart (tUn (rU fun i => .int (-i)) (tC (.int 1)))) := po_some (pe_un un_neg pe_int)
  refine wpAny_Slice (thn (po_none.run pins s1 σ H1 (fun o H2 => o = none ∧ H2 = H1) I1 ⟨rfl, rfl⟩) fun vl s2 ⟨l, H2, I2, pl, el, e2⟩ => ?_)
  subst el e2
  refine thn (po_none.run pins s2 σ H2 (fun o H3 => o = none ∧ H3 = H2) I2 ⟨rfl, rfl⟩) fun vu s3 ⟨u, H3, I3, pu, eu, e3⟩ => ?_
  subst eu e3
  refine thn (hst.run pins s3 σ H3 (fun o H4 => o = some (-1) ∧ H4 = H3) I3 ⟨1, rfl, -1, rfl, rfl, rfl⟩) fun vs s4 ⟨o, H4, I4, ps, eo, e4⟩ => ?_
  subst eo e4
  have I5 : Inv X pins σ H4 { s4 with heap := s4.heap.push { cls := .type "slice", data := .fields #[vl, vu, vs] } } := I4.kept (t' := s4.toks) fun b ob q => Heap.get?_push_of_some _ q
  obtain ⟨its, r, ht, hz⟩ := I5.tuple hx
  have hlen := r.length
  cases pl
  cases pu
  show wpAny (model X.prog X.w) X.A (subscriptTail e (.Slice none none (some (.UnaryOp .USub (.Constant (.int 1) k p1) p2)) p3) (.ref a) (.ref s4.heap.objs.size)) (EP X pins σ Q) X.xe { s4 with heap := s4.heap.push { cls := .type "slice", data := .fields #[.none, .none, vs] } }
  refine tail_any (ops := [.ref a, .ref s4.heap.objs.size]) ht.typeIs (PyProof.Rows.slot_tuple_getitem.lookup) ?_ (by with_unfolding_all rfl)
  refine getItem_tuple_rev ht (Heap.IsSliceOf.new _ .none .none vs) ps ?_ (by rw [List.size_toArray]; omega)
  refine ⟨.ref _, _, I5.laid (t' := s4.toks) (o := .tup xs.reverse) (fun b ob q => Heap.get?_push_of_some _ q) (Nat.le_refl _) ?_, rfl, q _ (I5.hok.fresh (Nat.le_refl _))⟩
  exact ⟨by rw [List.length_reverse]; exact hz, _, r.reverse, IsTup.new _ _⟩
def tRev0 (K : PySem.W.Frag) (te : TE) : TE := fun σ H Q => te σ H fun x H1 => ∃ a xs, x = .ref a ∧ SqL K H1 a xs ∧ xs ≠ [] ∧ ∀ p, H1 p = none → Q (.ref p) (upd H1 p (.lst (xs.drop 1).reverse))
theorem pe_rev0 {X : Cx} {e : Expr} {te : TE} {k k0 : Nat} {p0 p1 p2 p3 pos : Pos} (he : PE X e te) : PE X (.Subscript e (.Slice none (some (.Constant (.int 0) k0 p0)) (some (.UnaryOp .USub (.Constant (.int 1) k p1) p2)) p3) pos) (tRev0 X.K te) := by
  refine ⟨fun pins s σ H Q I h => ?_⟩
  refine Subscript_ (thn (he.run pins s σ H _ I h) fun v s1 ⟨x, H1, I1, r1, q1⟩ => ?_)
  obtain ⟨a, xs, ex, hx, hne, q⟩ := q1
  subst ex
  cases r1
  have hst : PO X (some (.UnaryOp .USub (.Constant (.int 1) k p1) p2)) (tPart (tUn (rU fun i => .int (-i)) (tC (.int 1)))) := po_some (pe_un un_neg pe_int)
  have h0 : PO X (some (.Constant (.int 0) k0 p0)) (tPart (tC (.int 0))) := po_some pe_int
  refine wpAny_Slice (thn (po_none.run pins s1 σ H1 (fun o H2 => o = none ∧ H2 = H1) I1 ⟨rfl, rfl⟩) fun vl s2 ⟨l, H2, I2, pl, el, e2⟩ => ?_)
  subst el e2
  refine thn (h0.run pins s2 σ H2 (fun o H3 => o = some 0 ∧ H3 = H2) I2 ⟨0, rfl, rfl, rfl⟩) fun vu s3 ⟨u, H3, I3, pu, eu, e3⟩ => ?_
  subst eu e3
  refine thn (hst.run pins s3 σ H3 (fun o H4 => o = some (-1) ∧ H4 = H3) I3 ⟨1, rfl, -1, rfl, rfl, rfl⟩) fun vs s4 ⟨o, H4, I4, ps, eo, e4⟩ => ?_
  subst eo e4
  have I5 : Inv X pins σ H4 { s4 with heap := s4.heap.push { cls := .type "slice", data := .fields #[vl, vu, vs] } } := I4.kept (t' := s4.toks) fun b ob q => Heap.get?_push_of_some _ q
  obtain ⟨its, r, ht, hz⟩ := I5.list hx
  have hlen := r.length
  have hpos : 0 < its.toArray.size := by
    rw [List.size_toArray]
    have := List.length_pos_iff.mpr hne
    omega
  show wpAny (model X.prog X.w) X.A (subscriptTail e (.Slice none (some (.Constant (.int 0) k0 p0)) (some (.UnaryOp .USub (.Constant (.int 1) k p1) p2)) p3) (.ref a) (.ref s4.heap.objs.size)) (EP X pins σ Q) X.xe { s4 with heap := s4.heap.push { cls := .type "slice", data := .fields #[vl, vu, vs] } }
  refine tail_any (ops := [.ref a, .ref s4.heap.objs.size]) ht.isList.typeIs (PySem.slot_list_getitem.lookup) ?_ (by with_unfolding_all rfl)
  refine wpAny_getItem_list_slice ht.isList (Heap.IsSliceOf.new _ vl vu vs) pl pu ps (by decide) ?_ (by rw [List.size_toArray]; omega)
  rw [krv_pick0 _ hpos]
  refine ⟨.ref _, _, I5.laid (t' := s4.toks) (o := .lst (xs.drop 1).reverse) (fun b ob q => Heap.get?_push_of_some _ q) (Nat.le_refl _) ?_, rfl, q _ (I5.hok.fresh (Nat.le_refl _))⟩
  exact ⟨by rw [List.length_reverse, List.length_drop]; omega, _, 0, (r.drop 1).reverse, Heap.get?_push_size _ rfl⟩
end Vx
namespace Vx
open PySem PySem.Spec PyProof.Rows L2
section
variable {X : Cx}
def Kw1 (fd : FuncData) (ps : List Str) (k1 : Str) : Prop := ∀ (s : Shared) (u : Value), BindsTo s fd ⟨[], [(k1, u)]⟩ (ps.zip [u])
structure Dj (P : Program) (w : World) (K : PySem.W.Frag) (mg : Str → Option Value) (base : Heap) (x : Str) (k : Nat) (ps : List Str) (k1 : Str) (sp : Sp) : Prop where
  ex : ∃ f fd, FnOk P w K mg base CX0 k f fd ps sp ∧ mg x = some (.ref f) ∧ PySem.W.keepIn K (.ref f) = true ∧ Binds K fd ps [] ∧ Kw1 fd ps k1
theorem Dj.df {P : Program} {w : World} {K : PySem.W.Frag} {mg : Str → Option Value} {base : Heap} {x : Str} {k : Nat} {ps : List Str} {k1 : Str} {sp : Sp} (D : Dj P w K mg base x k ps k1 sp) : Df P w K mg base x k ps sp := by
  obtain ⟨f, fd, F, a, b, c, _⟩ := D.ex
  exact ⟨f, fd, F, a, b, c⟩
def tKw1 (sp : Sp) (tk : TA) : TE := fun σ H Q => tk σ H fun zs H2 => ∃ a, zs = [a] ∧ sp [a] H2 Q E0
variable {k : Nat} {ps : List Str} {sp : Sp} {x k1 : Str} {p pos p1 : Pos} {e1 : Expr} {tk : TA}
theorem pe_kw1 (D : Dj X.prog X.w X.K X.mg X.base x k ps k1 sp) (hr : Room k X.A) (hg : Gl X x) (hkw : PK X [⟨some k1, e1, p1⟩] tk)
    (hdb : (x == ("__debug__" : Str)) = false := by decide)
    (hall : (backToKw pos (keywordEach [⟨some k1, e1, p1⟩] X.env)).all (·.1.isSome) = true := by rfl)
    (hks : (backToKw pos (keywordEach [⟨some k1, e1, p1⟩] X.env)).filterMap (·.1) = [k1] := by rfl)
    (hpl : ((backTo pos (starEach [] X.env)).any (·.1) || (backToKw pos (keywordEach [⟨some k1, e1, p1⟩] X.env)).any (·.1.isNone)) = false := by rfl) :
    PE X (.Call (.Name x p) [] [⟨some k1, e1, p1⟩] pos) (tKw1 sp tk) := by
  obtain ⟨f, fd, F, hm, hk, _, hb⟩ := D.ex
  refine ⟨fun pins s σ H Q I h => ?_⟩
  refine wpAny_Call_Name_kw (ld_glob I hg hm ?_ hdb)
  refine PySem.W.callWith_KW0 (h₀ := X.base) I.ok.mod.kin hk hall ?_ hpl
  refine thn (hkw.run pos pins s σ H _ I h) fun ws s2 ⟨zs, H2, I2, rz, a, ez, q2⟩ => ⟨I2.kIn, ?_⟩
  subst ez
  rw [hks]
  obtain ⟨u, rfl, ra⟩ := vals1 rz
  refine wpAny_call (codeAny_mono (F.run X.A X.stack s2 H2 ⟨[], [(k1, u)]⟩ [u] [a] Q E0 hr I2.env0 (hb s2 u) (.cons ra .nil) q2) fun r s' hq => ?_)
  cases r with
  | error e => exact pass0 pins σ H2 s2 e s' I2 hq
  | ok fl =>
    cases fl with
    | ret u => exact I2.after hq
    | next => exact False.elim hq
    | brk => exact False.elim hq
    | cont => exact False.elim hq
end
theorem rSlA_none {K : PySem.W.Frag} {H : Hp} {x : V} {qs : List Rat} (h : RwT K H x qs) : qs.length < 1000 → True := fun _ => trivial
/-- one number over another, by whole numbers -/
theorem fr_neg2 {n m : Int} (hm : m < 0) : 0 - n.fdiv ((n.natAbs.gcd m.natAbs : Nat) : Int) = (Rat.divInt n m).num ∧ 0 - m.fdiv ((n.natAbs.gcd m.natAbs : Nat) : Int) = ((Rat.divInt n m).den : Int) := by
  obtain ⟨a, b⟩ := fr_neg (n := n) hm
  rw [← a, ← b]
  have d1 : ((n.natAbs.gcd m.natAbs : Nat) : Int) ∣ n := Int.gcd_dvd_left n m
  have d2 : ((n.natAbs.gcd m.natAbs : Nat) : Int) ∣ m := Int.gcd_dvd_right n m
  have hg0 : 0 < n.natAbs.gcd m.natAbs := Nat.gcd_pos_of_pos_right _ (by omega)
  generalize n.natAbs.gcd m.natAbs = g at *
  obtain ⟨n', rfl⟩ := d1
  obtain ⟨m', rfl⟩ := d2
  have hgi : (g : Int) ≠ 0 := by omega
  have key : ∀ y : Int, 0 - ((g : Int) * y).fdiv (g : Int) = ((g : Int) * y).fdiv (-(g : Int)) := fun y => by
    rw [Int.mul_fdiv_cancel_left _ hgi, show (g : Int) * y = (-(g : Int)) * (-y) by grind, Int.mul_fdiv_cancel_left _ (by omega)]
    omega
  exact ⟨key n', key m'⟩
/-- whole numbers: their greatest divisor -/
theorem toR_at (ns : List Int) (i : Nat) : at0 (toR ns) i = ((ns.getD i 0 : Int) : Rat) := by
  unfold at0 toR
  rw [List.getD_eq_getElem?_getD, List.getD_eq_getElem?_getD, List.getElem?_map]
  cases ns[i]? with
  | none => show (0 : Rat) = ((0 : Int) : Rat); push_cast; rfl
  | some n => rfl
theorem toR_len (ns : List Int) : (toR ns).length = ns.length := List.length_map _
theorem toR_div {ns : List Int} {g : Int} (h0 : g ≠ 0) (hd : ∀ n ∈ ns, g ∣ n) : toR (ns.map fun n => n.fdiv g) = smul (1 / (g : Rat)) (toR ns) := by
  unfold toR smul
  rw [List.map_map, List.map_map]
  refine List.map_congr_left fun n hn => ?_
  obtain ⟨k, rfl⟩ := hd n hn
  show (((g * k).fdiv g : Int) : Rat) = 1 / (g : Rat) * ((g * k : Int) : Rat)
  rw [Int.mul_fdiv_cancel_left _ h0]
  have hr : (g : Rat) ≠ 0 := by exact_mod_cast h0
  push_cast
  grind
end Vx
namespace Vx
open PySem PySem.Spec PyProof.Rows L2
theorem ix_tupK {X : Cx} {K : PySem.W.Frag} (h : X.K = K) : IxR X (rIxT K) := h ▸ ix_tup
theorem ix_listK {X : Cx} {K : PySem.W.Frag} (h : X.K = K) : IxR X (rIxL K) := h ▸ ix_list
end Vx
namespace Vx
open PySem PySem.Spec PyProof.Rows L2
theorem if_tt {A B : Prop} (q : A) : if true = true then A else B := q
theorem ixn_of {n k : Nat} (h : k < n) : ixN n (k : Int) = some k := by
  unfold ixN
  rw [if_pos (by omega), if_pos (by omega)]
  exact congrArg some (by omega)
end Vx
namespace Vx
open PySem PySem.Spec PyProof.Rows L2
local macro_rules | `(tactic| walk_at "cl") => `(tactic| first | assumption | exact Bz.mono (Bz.mul (by assumption) (by assumption)) (by decide) | rfl | omega | exact sz_of 0 rfl (by decide) | exact sz_of 1 rfl (by decide) | exact sz_of 2 rfl (by decide) | exact sz_of 3 rfl (by decide) | exact cmulx (by assumption) (by assumption) (by decide) | exact Bz.mono (Bz.mul (by assumption) (by assumption)) (by decide) | decide)
local macro_rules | `(tactic| walk_at "ex") => `(tactic| ((show Exists _); first | apply @Exists.intro V | apply @Exists.intro Int | apply @Exists.intro Addr | apply @Exists.intro (List V) | apply @Exists.intro Nat | apply @Exists.intro Str | apply @Exists.intro Bool | apply @Exists.intro (Option V) | apply @Exists.intro String | apply @Exists.intro Rat | apply @Exists.intro (List Rat)))
local macro_rules | `(tactic| walk_at "rd") => `(tactic| ((repeat (first | (walk_at "ex") | (apply And.intro; (focus (walk_at "cl"))))); (try dsimp only [])))
local macro_rules | `(tactic| walk_at "r0") => `(tactic| (repeat (first | (walk_at "ex") | (apply And.intro; (focus (walk_at "cl"))))))
section
variable {K : PySem.W.Frag} {h : Heap} {mg : Str → Option Value} {R : Prop}
theorem st_def {x : Str} {st : Stmt} {f : Addr} {oc kV dc pm cd ct : Value} {od an : Option Addr} {sl : Array (Option Value)} (X : K.In h) (G : h.Ns mainGlobals mg)
    (a : PySem.W.nsIn K mainGlobals x = some (some (.ref f)))
    (l : K.lookup f = some ⟨oc, od, .func (PySem.W.fnOf x x (defArgs st) (defBody st) (defScope st) .none kV dc pm an cd ct), sl⟩)
    (c : PySem.W.codeIn K cd x = true) (kk : PySem.W.keepIn K (.ref f) = true) (k : FunIn K mg x st → R) : R := k (funIn X G a l c kk)
theorem tabIn_of {x : Str} {f c P : Addr} {oc oc2 : Value} {od od2 : Option Addr} {sl sl2 : Array (Option Value)} {fd : FuncData} {vs : Array Value}
    (a : PySem.W.nsIn K mainGlobals x = some (some (.ref f))) (l : K.lookup f = some ⟨oc, od, .func fd, sl⟩) (hc : fd.code = .ref c)
    (lc : K.lookup c = some ⟨oc2, od2, .fields vs, sl2⟩) (hv : (vs[11]? : Option Value) = some (.ref P)) : PySem.W.tabIn K x = some (c, P) := by
  unfold PySem.W.tabIn
  rw [a]
  dsimp only []
  rw [l]
  dsimp only []
  rw [hc]
  dsimp only []
  rw [lc]
  dsimp only []
  rw [hv]
theorem st_defC {x : Str} {st : Stmt} {f c P : Addr} {oc kV dc pm ct oc2 : Value} {od od2 an : Option Addr} {sl sl2 : Array (Option Value)} {vs : Array Value} (X : K.In h) (G : h.Ns mainGlobals mg)
    (a : PySem.W.nsIn K mainGlobals x = some (some (.ref f)))
    (l : K.lookup f = some ⟨oc, od, .func (PySem.W.fnOf x x (defArgs st) (defBody st) (defScope st) .none kV dc pm an (.ref c) ct), sl⟩)
    (cc : PySem.W.codeIn K (.ref c) x = true) (kk : PySem.W.keepIn K (.ref f) = true) (lc : K.lookup c = some ⟨oc2, od2, .fields vs, sl2⟩) (hv : (vs[11]? : Option Value) = some (.ref P)) (n : K.lookup P = none)
    (k : FunC K mg x st c P → PySem.W.tabIn K x = some (c, P) → K.lookup P = none → R) : R :=
  k ⟨f, oc, od, kV, dc, pm, an, ct, sl, l, cc, kk, PySem.W.mg_of X G a⟩ (tabIn_of a l rfl lc hv) n
theorem st_non {x : Str} (X : K.In h) (G : h.Ns mainGlobals mg) (a : PySem.W.nsIn K mainGlobals x = some none) (k : mg x = none → R) : R := k (PySem.W.mg_none_of X G a)
theorem st_val {x : Str} {v : Value} (X : K.In h) (G : h.Ns mainGlobals mg) (a : PySem.W.nsIn K mainGlobals x = some (some v)) (k : mg x = some v → R) : R := k (PySem.W.mg_of X G a)
theorem st_fr {x : Str} {aN : Addr} {i j : Int} {t u : Tok} {n : Nat} {dd : Option Addr} {sl : Array (Option Value)} (X : K.In h) (G : h.Ns mainGlobals mg) (a : PySem.W.nsIn K mainGlobals x = some (some (.ref aN)))
    (l : K.lookup aN = some ⟨.type "tuple", dd, .seq #[.int i t, .int j u] n, sl⟩) (k : mg x = some (.ref aN) → (∀ H : Hp, SqT K H aN [.int i, .int j]) → R) : R :=
  k (PySem.W.mg_of X G a) fun H => Or.inr ⟨_, _, n, l, rfl, rfl, by show 2 ≤ sizeLine; decide, .cons ⟨_, rfl⟩ (.cons ⟨_, rfl⟩ .nil)⟩
theorem FnG.imp {P : Program} {w : World} {base : Heap} {k : Nat} {f : Addr} {fd : FuncData} {ps : List Str} {sp sp' : Sp} (F : FnG P w K mg base CX0 k f fd ps sp) (i : ∀ vs H Q E, sp' vs H Q E → sp vs H Q E) : FnG P w K mg base CX0 k f fd ps sp' :=
  ⟨fun vs H Q E h => F.len vs H Q E (i vs H Q E h), fun A o s H ar us vs Q E r g e b v h => F.go A o s H ar us vs Q E r g e b v (i vs H Q E h)⟩
end
section
variable {P : Program} {w : World} {K : PySem.W.Frag} {mg : Str → Option Value} {base : Heap}
/-- law tells True of every script -/
def spLaw (K : PySem.W.Frag) (tb : Addr) : Sp := fun vs H Q _ => ∃ (a : Addr) (ns : List Int), vs = [.ref a] ∧ SqL K H a (ns.map V.int) ∧ ns.length ≤ 63 ∧ H tb = some (tabX tb) ∧ ∀ H', Same H H' → Q (.bl true) H'
theorem sc_law : FnScope ["script", "turn"] ["script"] (defScope s_law) := ⟨rfl, rfl, rfl, by decide +kernel, rfl, by decide +kernel, by decide +kernel⟩
theorem fn_law {tb f : Addr} {fd : FuncData} (F : Fun K "law" "law" s_law f fd) (B : Bls mg) (D_law_reel : Df P w K mg base "_law_reel" 1 ["script", "turn"] (spReel K)) (D_law_right : Dg P w K mg base "_law_right" 8 ["reel"] (spRight tb)) :
    FnG P w K mg base CX0 9 f fd ["script"] (spLaw K tb) := by
  refine gok F sc_law (fun vs H Q E h => ?_) (fun cdv A outer s H vs Q E ng hr h => ?_)
  · obtain ⟨a, ns, rfl, _⟩ := h
    rfl
  · obtain ⟨a, ns, rfl, hS, hl, htb, q⟩ := h
    have nd := sc_law.nd
    refine ⟨_, (pss_one (ps_ret (pe_callB (cr_all rfl) (by rfl) B.n_all (by decide +kernel) (pa_cons (pe_lc (own := [("turn", 1)]) rfl nd (pi_range1 rfl B.n_range (pa_cons (pe_callB (call_max2 rfl) (by rfl) B.n_max (by decide +kernel) (pa_cons pe_int (pa_cons (pe_callB (call_min2 rfl) (by rfl) B.n_min (by decide +kernel) (pa_cons (pe_callB call_len_seq (by rfl) B.n_len (by decide +kernel) (pa_cons (pv 0) pa_nil)) (pa_cons pe_int pa_nil))) pa_nil))) pa_nil)) (blkOk_by (own := [("turn", 1)]) (N := ["script", "turn"]) (sc := defScope s_law) (by decide +kernel)) (fun _ _ _ _ _ => (pg_name (i := 1) nd rfl (Or.inl rfl) (Or.inr rfl))) (fun _ _ _ _ _ => pts_nil) (fun _ _ _ _ _ => (pe_dg D_law_right (hr.mono (by decide)) ng rfl (pa_cons (pe_d D_law_reel (hr.mono (by decide)) rfl (pa_cons (pv 0) (pa_cons (pv 1) pa_nil))) pa_nil)))) pa_nil)))), ?_⟩
    refine ⟨_, rfl, _, _, rfl, Or.inl hS, _, _, rfl, _, _, rfl, ?_⟩
    rw [List.length_map]
    obtain ⟨n, hn, n3⟩ : ∃ n : Nat, (if (if (3 : Int) < (ns.length : Int) then (3 : Int) else (ns.length : Int)) > 1 then (if (3 : Int) < (ns.length : Int) then (3 : Int) else (ns.length : Int)) else 1) = (n : Int) ∧ n ≤ 3 := by
      refine ⟨(if (if (3 : Int) < (ns.length : Int) then (3 : Int) else (ns.length : Int)) > 1 then (if (3 : Int) < (ns.length : Int) then (3 : Int) else (ns.length : Int)) else 1).toNat, ?_, ?_⟩ <;> (split <;> split <;> omega)
    refine ⟨(n : Int), congrArg (fun z => [V.int z]) hn, by omega, by omega, fun D hD => lc_range (n := n) (fun i Hx => Same H Hx ∧ Hx D = some (.lst (List.replicate i (V.bl true)))) ⟨same_new hD, upd_same⟩ ?_ ?_⟩
    · rintro i Hx hi ⟨sx, ex⟩
      refine ⟨rfl, ?_⟩
      unfold tYes
      dsimp only []
      rw [if_pos rfl]
      refine ⟨_, rfl, _, rfl, a, ns, 0 + (i : Int), rfl, sx.seq hS, hl, by omega, by omega, fun p H1 hp hR s1 => ?_⟩
      have hne : D ≠ p := ne_of_none ex hp
      refine ⟨p, rfl, hR, s1 _ _ (sx _ _ htb), fun H2 b2 => ?_⟩
      have e2 : H2 D = some (.lst (List.replicate i (V.bl true))) := b2 _ _ (s1 _ _ ex) hne
      refine ⟨_, e2, ?_, fun b o e => ?_, ?_⟩
      · rw [List.length_replicate, sizeLine_eq]
        omega
      · rw [upd_ne (ne_of_none e hD)]
        exact b2 _ _ (s1 _ _ (sx _ _ e)) (ne_of_none (sx _ _ e) hp)
      · rw [upd_same, List.replicate_succ']
    · rintro Hx ⟨sx, ex⟩
      refine ⟨D, List.replicate n true, rfl, SqL.of (by rw [List.map_replicate]; exact ex), ?_⟩
      rw [show (List.replicate n true).all id = true from by simp]
      exact q Hx sx
def spLawA (K : PySem.W.Frag) : Sp := fun vs H Q E => ∀ c P : Addr, PySem.W.tabIn K "is_row" = some (c, P) → spLaw K P vs H Q E
theorem Dg.up {j k : Nat} {x : Str} {ps : List Str} {sp : Sp} (D : Dg P w K mg base x j ps sp) (h : j ≤ k) : Dg P w K mg base x k ps sp := by
  obtain ⟨f, fd, F, a⟩ := D.ex
  exact ⟨f, fd, ⟨F.len, fun A o s H ar us vs Q E r g e b v hh => F.go A o s H ar us vs Q E (r.mono h) g e b v hh⟩, a⟩
end
theorem walkT {l : PySem.W.OpenLaw} {q : Program} {loose : List Str} {XP : (Str → Option Value) → Heap → Prop} {YP : World → Heap → Prop} {d : DefRec} {K : Params → PySem.W.Frag} (hn : l.most = some 63)
    (hdf : d.params.defaults = []) (him : importsNone q = true) (hrec : ((recsOf q).any fun e => e.name == ("is_row" : Str)) = true) (hY : ∀ (w : World) (h : Heap), YP w h → (K w.params).In h)
    (F : ∀ (w : World) (mg : Str → Option Value) (fa : Addr) (h : Heap), (K w.params).In h → h.Ns mainGlobals mg → mg d.name = some (.ref fa) →
      ∃ (fd : FuncData) (c P : Addr), PySem.W.tabIn (K w.params) "is_row" = some (c, P) ∧ (K w.params).lookup P = none ∧ (∀ (s : Shared) (u : Value), BindsTo s fd ⟨[u], []⟩ [("script", u)]) ∧
        ∀ base : Heap, (K w.params).In base → base.Ns mainGlobals mg → Sys base → GxR.TabB base mg c P → FnG l.prog w (K w.params) mg base CX0 9 fa fd ["script"] (spLaw (K w.params) P)) :
    PySem.W.WalkO q loose XP YP l.row.toRowW d [] (fun f vs => PySem.call f vs) := by
  refine walk_gt (n := 63) (k := 9) (x := "script") (y := "is_row") (sp := fun w => spLawA (K w.params)) (st := .Pass ⟨0, 0, 0, 0⟩) hn (by decide) hdf ⟨rfl, by decide, by decide⟩ him hrec hY fun w mg fa h KX G hm _ => ?_
  obtain ⟨fd, c, P, h1, h2, h3, h4⟩ := F w mg fa h KX G hm
  refine ⟨fd, c, P, h1, h2, h3, fun base a b e t => (h4 base a b e t).imp fun vs H Q E z => z c P h1, fun H a ns hl hP hS c' P' e => ?_⟩
  rw [h1] at e
  cases e
  exact ⟨a, ns, rfl, hS, hl, hP, fun H' s => ⟨rfl, s⟩⟩
section
variable {P : Program} {w : World} {K : PySem.W.Frag} {mg : Str → Option Value}
theorem law_all {fa c tb aNIL : Addr} (hfa : mg "law" = some (.ref fa)) (T : Blt mg) (hNIL : NilC K mg aNIL) (gl : mg "lcm" = some (.builtin "math.lcm")) (nb : mg "bool" = none)
    (WR : FunC K mg "is_row" s_is_row c tb) (htab : PySem.W.tabIn K "is_row" = some (c, tb)) (hPn : K.lookup tb = none)
    (W_is_whole : FunIn K mg "is_whole" s_is_whole) (W_is_fraction : FunIn K mg "is_fraction" s_is_fraction) (W_ratio : FunIn K mg "ratio" s_ratio) (W_ratio_sum : FunIn K mg "ratio_sum" s_ratio_sum) (W_ratio_less : FunIn K mg "ratio_less" s_ratio_less) (W_without_end : FunIn K mg "without_end" s_without_end) (W_trimmed : FunIn K mg "trimmed" s_trimmed) (W_cleared : FunIn K mg "cleared" s_cleared) (W_row_over : FunIn K mg "row_over" s_row_over) (W_padded : FunIn K mg "padded" s_padded) (W_plus : FunIn K mg "plus" s_plus) (W_minus : FunIn K mg "minus" s_minus) (W_whole_product : FunIn K mg "whole_product" s_whole_product) (W_times : FunIn K mg "times" s_times) (W_whole_split : FunIn K mg "whole_split" s_whole_split) (W_split_row : FunIn K mg "split_row" s_split_row) (W_is_filled_row : FunIn K mg "is_filled_row" s_is_filled_row) (W_check_row : FunIn K mg "check_row" s_check_row) (W_check_filled_row : FunIn K mg "check_filled_row" s_check_filled_row) (W_row_sum : FunIn K mg "row_sum" s_row_sum) (W_row_less : FunIn K mg "row_less" s_row_less) (W_row_product : FunIn K mg "row_product" s_row_product) (W_parted : FunIn K mg "parted" s_parted) (W_divides : FunIn K mg "divides" s_divides) (W__law_reel : FunIn K mg "_law_reel" s__law_reel) (W__law_pull : FunIn K mg "_law_pull" s__law_pull) (W__law_lowest : FunIn K mg "_law_lowest" s__law_lowest) (W__law_plus : FunIn K mg "_law_plus" s__law_plus) (W__law_times : FunIn K mg "_law_times" s__law_times) (W__law_part : FunIn K mg "_law_part" s__law_part) (W__law_some : FunIn K mg "_law_some" s__law_some) (W__law_trim : FunIn K mg "_law_trim" s__law_trim) (W__law_at : FunIn K mg "_law_at" s__law_at) (W__law_sum : FunIn K mg "_law_sum" s__law_sum) (W__law_product : FunIn K mg "_law_product" s__law_product) (W__law_drawn : FunIn K mg "_law_drawn" s__law_drawn) (W__law_is_whole : FunIn K mg "_law_is_whole" s__law_is_whole) (W__law_is_fraction : FunIn K mg "_law_is_fraction" s__law_is_fraction) (W__law_is_row : FunIn K mg "_law_is_row" s__law_is_row) (W__law_divisor_row : FunIn K mg "_law_divisor_row" s__law_divisor_row) (W__law_right : FunIn K mg "_law_right" s__law_right) (W_law : FunIn K mg "law" s_law) :
    ∃ (fd : FuncData) (c P' : Addr), PySem.W.tabIn K "is_row" = some (c, P') ∧ K.lookup P' = none ∧ (∀ (s : Shared) (u : Value), BindsTo s fd ⟨[u], []⟩ [("script", u)]) ∧
      ∀ base : Heap, K.In base → base.Ns mainGlobals mg → Sys base → GxR.TabB base mg c P' → FnG P w K mg base CX0 9 fa fd ["script"] (spLaw K P') := by
  obtain ⟨f, fd, F, hm⟩ := W_law
  have e : fa = f := Value.ref.inj (Option.some.inj (hfa.symm.trans hm))
  subst e
  refine ⟨fd, c, tb, htab, hPn, ?_, fun base _ _ sy TB => ?_⟩
  · obtain ⟨oc, od, kV, doc, pm, an, cdv, ct, osl, rfl, _, _⟩ := F.ex
    exact fun s u => .of_eq rfl
  · have Dratio := d_ratio (P := P) (w := w) (base := base) W_ratio T 
    have Dratio_sum := d_ratio_sum (P := P) (w := w) (base := base) W_ratio_sum Dratio 
    have Dratio_less := d_ratio_less (P := P) (w := w) (base := base) W_ratio_less Dratio 
    have Dwithout_end := d_without_end (P := P) (w := w) (base := base) W_without_end T 
    have Dtrimmed := d_trimmed (P := P) (w := w) (base := base) W_trimmed T hNIL Dwithout_end 
    have Dcleared := d_cleared (P := P) (w := w) (base := base) W_cleared T gl 
    have Drow_over := d_row_over (P := P) (w := w) (base := base) W_row_over Dratio Dtrimmed 
    have Dpadded := d_padded (P := P) (w := w) (base := base) W_padded T hNIL 
    have Dplus := d_plus (P := P) (w := w) (base := base) W_plus T Dratio_sum Dtrimmed Dpadded 
    have Dminus := d_minus (P := P) (w := w) (base := base) W_minus T Dratio_less Dtrimmed Dpadded 
    have Dwhole_product := d_whole_product (P := P) (w := w) (base := base) W_whole_product T 
    have Dtimes := d_times (P := P) (w := w) (base := base) W_times Dcleared Dwhole_product Drow_over 
    have Dwhole_split := d_whole_split (P := P) (w := w) (base := base) W_whole_split T 
    have Dsplit_row := d_split_row (P := P) (w := w) (base := base) W_split_row Dcleared Dwhole_split Drow_over 
    have Dis_fraction := d_is_fraction (P := P) (w := w) (base := base) W_is_fraction W_is_whole T 
    have Dis_row := d_is_row (P := P) (w := w) (base := base) WR W_is_fraction W_is_whole T hNIL TB hPn 
    have Dcheck_row := d_check_row (P := P) (w := w) (base := base) W_check_row Dis_row 
    have Dis_filled_row := d_is_filled_row (P := P) (w := w) (base := base) W_is_filled_row Dis_row 
    have Dcheck_filled_row := d_check_filled_row (P := P) (w := w) (base := base) W_check_filled_row Dis_filled_row 
    have Krow_sum := d_row_sum (P := P) (w := w) (base := base) W_row_sum Dcheck_row Dplus 
    have Krow_less := d_row_less (P := P) (w := w) (base := base) W_row_less Dcheck_row Dminus 
    have Krow_product := d_row_product (P := P) (w := w) (base := base) W_row_product Dcheck_row Dtimes 
    have Kparted := d_parted (P := P) (w := w) (base := base) W_parted Dcheck_row Dcheck_filled_row Dsplit_row 
    have Kdivides := d_divides (P := P) (w := w) (base := base) W_divides Dcheck_row Dcheck_filled_row Dsplit_row 
    have D_law_pull := d_pull (P := P) (w := w) (base := base) W__law_pull T.toBls 
    have D_law_reel := d_reel (P := P) (w := w) (base := base) W__law_reel T.toBls 
    have D_law_lowest := d__law_lowest (P := P) (w := w) (base := base) W__law_lowest T 
    have D_law_plus := d__law_plus (P := P) (w := w) (base := base) W__law_plus D_law_lowest 
    have D_law_times := d__law_times (P := P) (w := w) (base := base) W__law_times D_law_lowest 
    have D_law_part := d__law_part (P := P) (w := w) (base := base) W__law_part D_law_pull D_law_lowest 
    have D_law_some := d__law_some (P := P) (w := w) (base := base) W__law_some D_law_part 
    have D_trimL := d__law_trimL (P := P) (w := w) (base := base) W__law_trim T 
    have D_trimT := d__law_trimT (P := P) (w := w) (base := base) W__law_trim T 
    have D_law_at := d__law_at (P := P) (w := w) (base := base) W__law_at T 
    have D_law_sum := d__law_sum (P := P) (w := w) (base := base) W__law_sum T D_trimL D_law_plus D_law_at 
    have D_law_product := d__law_product (P := P) (w := w) (base := base) W__law_product T D_trimL D_law_plus D_law_times 
    have D_law_drawn := d__law_drawn (P := P) (w := w) (base := base) W__law_drawn T D_law_pull D_law_part D_law_some 
    have D_law_is_whole := d__law_is_whole (P := P) (w := w) (base := base) W__law_is_whole T nb 
    have D_law_is_fraction := d__law_is_fraction (P := P) (w := w) (base := base) W__law_is_fraction T D_law_is_whole D_law_lowest 
    have D_law_is_row := d__law_is_row (P := P) (w := w) (base := base) W__law_is_row T D_law_is_fraction 
    have D_law_divisor_row := d__law_divisor_row (P := P) (w := w) (base := base) W__law_divisor_row D_law_drawn D_law_some 
    have D_law_right := (d__law_right (P := P) (w := w) (base := base) W__law_right T sy D_law_divisor_row D_law_drawn D_law_pull D_trimT D_law_sum D_law_product D_law_is_row Krow_sum Krow_less Krow_product Kparted Kdivides).up (k := 8) (by decide)
    exact fn_law F T.toBls D_law_reel D_law_right
end
end Vx
open PySem PySem.W PyProof.Rows
set_option Elab.async false
set_option maxRecDepth 100000 in
set_option maxHeartbeats 0 in
theorem PySem.Challenge.cw_allhelms_k03_whole_quotients_and_rests_holds : PySem.Challenge.rw_allhelms_k03_whole_quotients_and_rests.Holds := by
  w_on; o_law; k_head; (case hw => w_witness2)
  k_fill
  refine Vx.walkT (l := PySem.Challenge.rw_allhelms_k03_whole_quotients_and_rests) rfl rfl rfl rfl (fun w h Y => PySem.W.kIn_of Y) ?F
  case F =>
    intro w mg fa h KX G hmg
    refine' Vx.st_def (x := "is_whole") (st := Vx.s_is_whole) KX G ?a_1 ?l_1 ?c_1 ?kk_1 ?k_1
    (case a_1 => k_is); (case l_1 => k_is); (case c_1 => k_is); (case kk_1 => k_is)
    intro W_is_whole
    refine' Vx.st_def (x := "is_fraction") (st := Vx.s_is_fraction) KX G ?a_2 ?l_2 ?c_2 ?kk_2 ?k_2
    (case a_2 => k_is); (case l_2 => k_is); (case c_2 => k_is); (case kk_2 => k_is)
    intro W_is_fraction
    refine' Vx.st_def (x := "ratio") (st := Vx.s_ratio) KX G ?a_3 ?l_3 ?c_3 ?kk_3 ?k_3
    (case a_3 => k_is); (case l_3 => k_is); (case c_3 => k_is); (case kk_3 => k_is)
    intro W_ratio
    refine' Vx.st_def (x := "ratio_sum") (st := Vx.s_ratio_sum) KX G ?a_4 ?l_4 ?c_4 ?kk_4 ?k_4
    (case a_4 => k_is); (case l_4 => k_is); (case c_4 => k_is); (case kk_4 => k_is)
    intro W_ratio_sum
    refine' Vx.st_def (x := "ratio_less") (st := Vx.s_ratio_less) KX G ?a_5 ?l_5 ?c_5 ?kk_5 ?k_5
    (case a_5 => k_is); (case l_5 => k_is); (case c_5 => k_is); (case kk_5 => k_is)
    intro W_ratio_less
    refine' Vx.st_def (x := "without_end") (st := Vx.s_without_end) KX G ?a_6 ?l_6 ?c_6 ?kk_6 ?k_6
    (case a_6 => k_is); (case l_6 => k_is); (case c_6 => k_is); (case kk_6 => k_is)
    intro W_without_end
    refine' Vx.st_def (x := "trimmed") (st := Vx.s_trimmed) KX G ?a_7 ?l_7 ?c_7 ?kk_7 ?k_7
    (case a_7 => k_is); (case l_7 => k_is); (case c_7 => k_is); (case kk_7 => k_is)
    intro W_trimmed
    refine' Vx.st_def (x := "cleared") (st := Vx.s_cleared) KX G ?a_8 ?l_8 ?c_8 ?kk_8 ?k_8
    (case a_8 => k_is); (case l_8 => k_is); (case c_8 => k_is); (case kk_8 => k_is)
    intro W_cleared
    refine' Vx.st_def (x := "row_over") (st := Vx.s_row_over) KX G ?a_9 ?l_9 ?c_9 ?kk_9 ?k_9
    (case a_9 => k_is); (case l_9 => k_is); (case c_9 => k_is); (case kk_9 => k_is)
    intro W_row_over
    refine' Vx.st_def (x := "padded") (st := Vx.s_padded) KX G ?a_10 ?l_10 ?c_10 ?kk_10 ?k_10
    (case a_10 => k_is); (case l_10 => k_is); (case c_10 => k_is); (case kk_10 => k_is)
    intro W_padded
    refine' Vx.st_def (x := "plus") (st := Vx.s_plus) KX G ?a_11 ?l_11 ?c_11 ?kk_11 ?k_11
    (case a_11 => k_is); (case l_11 => k_is); (case c_11 => k_is); (case kk_11 => k_is)
    intro W_plus
    refine' Vx.st_def (x := "minus") (st := Vx.s_minus) KX G ?a_12 ?l_12 ?c_12 ?kk_12 ?k_12
    (case a_12 => k_is); (case l_12 => k_is); (case c_12 => k_is); (case kk_12 => k_is)
    intro W_minus
    refine' Vx.st_def (x := "whole_product") (st := Vx.s_whole_product) KX G ?a_13 ?l_13 ?c_13 ?kk_13 ?k_13
    (case a_13 => k_is); (case l_13 => k_is); (case c_13 => k_is); (case kk_13 => k_is)
    intro W_whole_product
    refine' Vx.st_def (x := "times") (st := Vx.s_times) KX G ?a_14 ?l_14 ?c_14 ?kk_14 ?k_14
    (case a_14 => k_is); (case l_14 => k_is); (case c_14 => k_is); (case kk_14 => k_is)
    intro W_times
    refine' Vx.st_def (x := "whole_split") (st := Vx.s_whole_split) KX G ?a_15 ?l_15 ?c_15 ?kk_15 ?k_15
    (case a_15 => k_is); (case l_15 => k_is); (case c_15 => k_is); (case kk_15 => k_is)
    intro W_whole_split
    refine' Vx.st_def (x := "split_row") (st := Vx.s_split_row) KX G ?a_16 ?l_16 ?c_16 ?kk_16 ?k_16
    (case a_16 => k_is); (case l_16 => k_is); (case c_16 => k_is); (case kk_16 => k_is)
    intro W_split_row
    refine' Vx.st_def (x := "is_filled_row") (st := Vx.s_is_filled_row) KX G ?a_17 ?l_17 ?c_17 ?kk_17 ?k_17
    (case a_17 => k_is); (case l_17 => k_is); (case c_17 => k_is); (case kk_17 => k_is)
    intro W_is_filled_row
    refine' Vx.st_def (x := "check_row") (st := Vx.s_check_row) KX G ?a_18 ?l_18 ?c_18 ?kk_18 ?k_18
    (case a_18 => k_is); (case l_18 => k_is); (case c_18 => k_is); (case kk_18 => k_is)
    intro W_check_row
    refine' Vx.st_def (x := "check_filled_row") (st := Vx.s_check_filled_row) KX G ?a_19 ?l_19 ?c_19 ?kk_19 ?k_19
    (case a_19 => k_is); (case l_19 => k_is); (case c_19 => k_is); (case kk_19 => k_is)
    intro W_check_filled_row
    refine' Vx.st_def (x := "row_sum") (st := Vx.s_row_sum) KX G ?a_20 ?l_20 ?c_20 ?kk_20 ?k_20
    (case a_20 => k_is); (case l_20 => k_is); (case c_20 => k_is); (case kk_20 => k_is)
    intro W_row_sum
    refine' Vx.st_def (x := "row_less") (st := Vx.s_row_less) KX G ?a_21 ?l_21 ?c_21 ?kk_21 ?k_21
    (case a_21 => k_is); (case l_21 => k_is); (case c_21 => k_is); (case kk_21 => k_is)
    intro W_row_less
    refine' Vx.st_def (x := "row_product") (st := Vx.s_row_product) KX G ?a_22 ?l_22 ?c_22 ?kk_22 ?k_22
    (case a_22 => k_is); (case l_22 => k_is); (case c_22 => k_is); (case kk_22 => k_is)
    intro W_row_product
    refine' Vx.st_def (x := "parted") (st := Vx.s_parted) KX G ?a_23 ?l_23 ?c_23 ?kk_23 ?k_23
    (case a_23 => k_is); (case l_23 => k_is); (case c_23 => k_is); (case kk_23 => k_is)
    intro W_parted
    refine' Vx.st_def (x := "divides") (st := Vx.s_divides) KX G ?a_24 ?l_24 ?c_24 ?kk_24 ?k_24
    (case a_24 => k_is); (case l_24 => k_is); (case c_24 => k_is); (case kk_24 => k_is)
    intro W_divides
    refine' Vx.st_def (x := "_law_reel") (st := Vx.s__law_reel) KX G ?a_25 ?l_25 ?c_25 ?kk_25 ?k_25
    (case a_25 => k_is); (case l_25 => k_is); (case c_25 => k_is); (case kk_25 => k_is)
    intro W__law_reel
    refine' Vx.st_def (x := "_law_pull") (st := Vx.s__law_pull) KX G ?a_26 ?l_26 ?c_26 ?kk_26 ?k_26
    (case a_26 => k_is); (case l_26 => k_is); (case c_26 => k_is); (case kk_26 => k_is)
    intro W__law_pull
    refine' Vx.st_def (x := "_law_lowest") (st := Vx.s__law_lowest) KX G ?a_27 ?l_27 ?c_27 ?kk_27 ?k_27
    (case a_27 => k_is); (case l_27 => k_is); (case c_27 => k_is); (case kk_27 => k_is)
    intro W__law_lowest
    refine' Vx.st_def (x := "_law_plus") (st := Vx.s__law_plus) KX G ?a_28 ?l_28 ?c_28 ?kk_28 ?k_28
    (case a_28 => k_is); (case l_28 => k_is); (case c_28 => k_is); (case kk_28 => k_is)
    intro W__law_plus
    refine' Vx.st_def (x := "_law_times") (st := Vx.s__law_times) KX G ?a_29 ?l_29 ?c_29 ?kk_29 ?k_29
    (case a_29 => k_is); (case l_29 => k_is); (case c_29 => k_is); (case kk_29 => k_is)
    intro W__law_times
    refine' Vx.st_def (x := "_law_part") (st := Vx.s__law_part) KX G ?a_30 ?l_30 ?c_30 ?kk_30 ?k_30
    (case a_30 => k_is); (case l_30 => k_is); (case c_30 => k_is); (case kk_30 => k_is)
    intro W__law_part
    refine' Vx.st_def (x := "_law_some") (st := Vx.s__law_some) KX G ?a_31 ?l_31 ?c_31 ?kk_31 ?k_31
    (case a_31 => k_is); (case l_31 => k_is); (case c_31 => k_is); (case kk_31 => k_is)
    intro W__law_some
    refine' Vx.st_def (x := "_law_trim") (st := Vx.s__law_trim) KX G ?a_32 ?l_32 ?c_32 ?kk_32 ?k_32
    (case a_32 => k_is); (case l_32 => k_is); (case c_32 => k_is); (case kk_32 => k_is)
    intro W__law_trim
    refine' Vx.st_def (x := "_law_at") (st := Vx.s__law_at) KX G ?a_33 ?l_33 ?c_33 ?kk_33 ?k_33
    (case a_33 => k_is); (case l_33 => k_is); (case c_33 => k_is); (case kk_33 => k_is)
    intro W__law_at
    refine' Vx.st_def (x := "_law_sum") (st := Vx.s__law_sum) KX G ?a_34 ?l_34 ?c_34 ?kk_34 ?k_34
    (case a_34 => k_is); (case l_34 => k_is); (case c_34 => k_is); (case kk_34 => k_is)
    intro W__law_sum
    refine' Vx.st_def (x := "_law_product") (st := Vx.s__law_product) KX G ?a_35 ?l_35 ?c_35 ?kk_35 ?k_35
    (case a_35 => k_is); (case l_35 => k_is); (case c_35 => k_is); (case kk_35 => k_is)
    intro W__law_product
    refine' Vx.st_def (x := "_law_drawn") (st := Vx.s__law_drawn) KX G ?a_36 ?l_36 ?c_36 ?kk_36 ?k_36
    (case a_36 => k_is); (case l_36 => k_is); (case c_36 => k_is); (case kk_36 => k_is)
    intro W__law_drawn
    refine' Vx.st_def (x := "_law_is_whole") (st := Vx.s__law_is_whole) KX G ?a_37 ?l_37 ?c_37 ?kk_37 ?k_37
    (case a_37 => k_is); (case l_37 => k_is); (case c_37 => k_is); (case kk_37 => k_is)
    intro W__law_is_whole
    refine' Vx.st_def (x := "_law_is_fraction") (st := Vx.s__law_is_fraction) KX G ?a_38 ?l_38 ?c_38 ?kk_38 ?k_38
    (case a_38 => k_is); (case l_38 => k_is); (case c_38 => k_is); (case kk_38 => k_is)
    intro W__law_is_fraction
    refine' Vx.st_def (x := "_law_is_row") (st := Vx.s__law_is_row) KX G ?a_39 ?l_39 ?c_39 ?kk_39 ?k_39
    (case a_39 => k_is); (case l_39 => k_is); (case c_39 => k_is); (case kk_39 => k_is)
    intro W__law_is_row
    refine' Vx.st_def (x := "_law_divisor_row") (st := Vx.s__law_divisor_row) KX G ?a_40 ?l_40 ?c_40 ?kk_40 ?k_40
    (case a_40 => k_is); (case l_40 => k_is); (case c_40 => k_is); (case kk_40 => k_is)
    intro W__law_divisor_row
    refine' Vx.st_def (x := "_law_right") (st := Vx.s__law_right) KX G ?a_41 ?l_41 ?c_41 ?kk_41 ?k_41
    (case a_41 => k_is); (case l_41 => k_is); (case c_41 => k_is); (case kk_41 => k_is)
    intro W__law_right
    refine' Vx.st_def (x := "law") (st := Vx.s_law) KX G ?a_42 ?l_42 ?c_42 ?kk_42 ?k_42
    (case a_42 => k_is); (case l_42 => k_is); (case c_42 => k_is); (case kk_42 => k_is)
    intro W_law
    refine' Vx.st_defC (x := "is_row") (st := Vx.s_is_row) KX G ?a_43 ?l_43 ?cc_43 ?kk_43 ?lc_43 ?hv_43 ?n_43 ?k_43
    (case a_43 => k_is); (case l_43 => k_is); (case cc_43 => k_is); (case kk_43 => k_is); (case lc_43 => k_is); (case hv_43 => rfl); (case n_43 => (first | rfl | kernel_rfl))
    intro WR htab hPn
    refine' Vx.st_non (x := "int") KX G ?a_44 ?k_44
    (case a_44 => k_is)
    intro n_int
    refine' Vx.st_non (x := "len") KX G ?a_45 ?k_45
    (case a_45 => k_is)
    intro n_len
    refine' Vx.st_non (x := "abs") KX G ?a_46 ?k_46
    (case a_46 => k_is)
    intro n_abs
    refine' Vx.st_non (x := "divmod") KX G ?a_47 ?k_47
    (case a_47 => k_is)
    intro n_divmod
    refine' Vx.st_non (x := "range") KX G ?a_48 ?k_48
    (case a_48 => k_is)
    intro n_range
    refine' Vx.st_non (x := "min") KX G ?a_49 ?k_49
    (case a_49 => k_is)
    intro n_min
    refine' Vx.st_non (x := "max") KX G ?a_50 ?k_50
    (case a_50 => k_is)
    intro n_max
    refine' Vx.st_non (x := "all") KX G ?a_51 ?k_51
    (case a_51 => k_is)
    intro n_all
    refine' Vx.st_non (x := "repr") KX G ?a_52 ?k_52
    (case a_52 => k_is)
    intro n_repr
    refine' Vx.st_non (x := "isinstance") KX G ?a_53 ?k_53
    (case a_53 => k_is)
    intro n_isinstance
    refine' Vx.st_non (x := "type") KX G ?a_54 ?k_54
    (case a_54 => k_is)
    intro n_type
    refine' Vx.st_non (x := "tuple") KX G ?a_55 ?k_55
    (case a_55 => k_is)
    intro n_tuple
    refine' Vx.st_non (x := "list") KX G ?a_56 ?k_56
    (case a_56 => k_is)
    intro n_list
    refine' Vx.st_non (x := "zip") KX G ?a_57 ?k_57
    (case a_57 => k_is)
    intro n_zip
    refine' Vx.st_non (x := "enumerate") KX G ?a_58 ?k_58
    (case a_58 => k_is)
    intro n_enumerate
    refine' Vx.st_non (x := "reversed") KX G ?a_59 ?k_59
    (case a_59 => k_is)
    intro n_reversed
    refine' Vx.st_non (x := "bool") KX G ?a_60 ?k_60
    (case a_60 => k_is)
    intro n_bool
    refine' Vx.st_val (x := "gcd") (v := .builtin "math.gcd") KX G ?a_61 ?k_61
    (case a_61 => k_is)
    intro g_gcd
    refine' Vx.st_val (x := "lcm") (v := .builtin "math.lcm") KX G ?a_62 ?k_62
    (case a_62 => k_is)
    intro g_lcm
    refine' Vx.st_fr (x := "NIL") (i := 0) (j := 1) KX G ?a_63 ?l_63 ?k_63
    (case a_63 => k_is); (case l_63 => k_is)
    intro g_nil q_nil
    exact Vx.law_all hmg ⟨⟨n_int, n_len, n_abs, n_divmod, n_range, n_min, n_max, n_all, n_repr, n_isinstance⟩, n_type, n_tuple, n_list, n_zip, n_enumerate, n_reversed, g_gcd⟩ ⟨g_nil, q_nil⟩ g_lcm n_bool WR htab hPn W_is_whole W_is_fraction W_ratio W_ratio_sum W_ratio_less W_without_end W_trimmed W_cleared W_row_over W_padded W_plus W_minus W_whole_product W_times W_whole_split W_split_row W_is_filled_row W_check_row W_check_filled_row W_row_sum W_row_less W_row_product W_parted W_divides W__law_reel W__law_pull W__law_lowest W__law_plus W__law_times W__law_part W__law_some W__law_trim W__law_at W__law_sum W__law_product W__law_drawn W__law_is_whole W__law_is_fraction W__law_is_row W__law_divisor_row W__law_right W_law
