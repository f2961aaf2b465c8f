/-
  The stores, one by one.
-/
import Derived.Test.YtejhnobhpjlkaaaCtStay
namespace Go.Proofs.Ytejhnobhpjlkaaa.Cat
open Go.RowKit Route Tree Order

theorem Cat.kb2 {B p k : Nat} {v : Value} {Z : List SZ} {w : World} (h : Cat B p v Z w) (hk : KB Z k) : k < w.heap.size := by
  obtain ⟨z, hz, y, hy, hk⟩ := hk
  exact (((h.ents z hz).2 y hy).lt k hk).2

theorem St.far9 {F : Nat → Prop} {w8 wr : World} {ob kb ev : Value} {on kn en : Nat} {Y : List (Ent × Value)} (h : St F w8 ob on kb kn ev en Y wr) {g i : Nat} (h9 : ∃ cur, wr.heap[g]? = some (.cells cur 9 (0, 0))) : ev.ownBlock = some g → ∀ j, j < en → i ≠ j * 3 + 2 := fun hg => by
  obtain ⟨c1, h1⟩ := h9
  obtain ⟨c2, h2⟩ := h.e.block hg
  rw [h1] at h2
  simp at h2

theorem St.one {F : Nat → Prop} {w8 wr : World} {kb ev : Value} {on kn en c6 : Nat} {a6 : Option Addr} {Y : List (Ent × Value)} (h : St F w8 (.slice a6 on c6) on kb kn ev en Y wr) (hF : ∀ g, (Value.slice a6 on c6).ownBlock = some g → F g) {j : Nat} (hj : j < on) (u : Value) :
    ∃ g, a6 = some ⟨g, 0, none⟩ ∧ (∃ x, wr.cell? ⟨g, j, none⟩ = some x) ∧ wr.frozen? ⟨g, j, none⟩ = false ∧ St F w8 (.slice a6 on c6) on kb kn ev en Y (wr.setCell ⟨g, j, none⟩ u) := by
  obtain ⟨g, rfl, _, _, hx, hf⟩ := h.o.at (j := j) (by omega)
  exact ⟨g, rfl, hx, hf, h.set u (hF g rfl) (h.far9 (h.o.block rfl))⟩

theorem St.two {F : Nat → Prop} {w8 wr : World} {ob ev : Value} {on kn en c3 : Nat} {a3 : Option Addr} {Y : List (Ent × Value)} (h : St F w8 ob on (.slice a3 kn c3) kn ev en Y wr) (hF : ∀ g, (Value.slice a3 kn c3).ownBlock = some g → F g) {j : Nat} (hj : j < kn) (u : Value) :
    ∃ g, a3 = some ⟨g, 0, none⟩ ∧ (∃ x, wr.cell? ⟨g, j, none⟩ = some x) ∧ wr.frozen? ⟨g, j, none⟩ = false ∧ St F w8 ob on (.slice a3 kn c3) kn ev en Y (wr.setCell ⟨g, j, none⟩ u) := by
  obtain ⟨g, rfl, _, _, hx, hf⟩ := h.k.at (j := j) (by omega)
  exact ⟨g, rfl, hx, hf, h.set u (hF g rfl) (h.far9 (h.k.block rfl))⟩

theorem St.path {F : Nat → Prop} {w8 wr : World} {ob kb : Value} {on kn en c4 : Nat} {a4 : Option Addr} {Y : List (Ent × Value)} (h : St F w8 ob on kb kn (.slice a4 en c4) en Y wr) (hF : ∀ g, (Value.slice a4 en c4).ownBlock = some g → F g) {j : Nat} (hj : j < en) (u : Value) :
    ∃ g, a4 = some ⟨g, 0, none⟩ ∧ (∃ x, wr.cell? ⟨g, j * 3, none⟩ = some x) ∧ wr.frozen? ⟨g, j * 3, none⟩ = false ∧ wr.cell? ⟨g, j * 3 + 2, none⟩ = some (zOf Y j).2 ∧ St F w8 ob on kb kn (.slice a4 en c4) en Y (wr.setCell ⟨g, j * 3, none⟩ u) := by
  obtain ⟨g, rfl, _, _, hx, hf⟩ := h.e.at (j := j * 3) (by omega)
  exact ⟨g, rfl, hx, hf, h.c g rfl j hj, h.set u (hF g rfl) fun _ k _ => by omega⟩

theorem St.head {F : Nat → Prop} {w8 wr : World} {ob kb : Value} {on kn en c4 : Nat} {a4 : Option Addr} {Y : List (Ent × Value)} (h : St F w8 ob on kb kn (.slice a4 en c4) en Y wr) {j : Nat} (hj : j < en) : ∃ g, a4 = some ⟨g, 0, none⟩ ∧ wr.cell? ⟨g, j * 3 + 2, none⟩ = some (zOf Y j).2 := by
  obtain ⟨g, rfl, _⟩ := h.e.at (j := j * 3) (by omega)
  exact ⟨g, rfl, h.c g rfl j hj⟩

theorem St.key {F : Nat → Prop} {w8 wr : World} {ob kb ev : Value} {on kn en : Nat} {Y : List (Ent × Value)} (h : St F w8 ob on kb kn ev en Y wr) {z : Ent × Value} (hz : z ∈ Y) {az : Option Addr} {zn cz : Nat} (he : z.2 = .slice az zn cz) (hn : zn = z.1.2.2.length) (hF : ∀ g, z.2.ownBlock = some g → F g) {m : Nat} (hm : m < zn) (u : Value) :
    ∃ g, az = some ⟨g, 0, none⟩ ∧ (∃ x, wr.cell? ⟨g, m, none⟩ = some x) ∧ wr.frozen? ⟨g, m, none⟩ = false ∧ St F w8 ob on kb kn ev en Y (wr.setCell ⟨g, m, none⟩ u) := by
  have hy := h.y z hz
  rw [he, ← hn] at hy
  rw [he] at hF
  obtain ⟨g, rfl, _, _, hx, hf⟩ := hy.at (j := m) (by omega)
  exact ⟨g, rfl, hx, hf, h.set u (hF g rfl) (h.far9 (hy.block rfl))⟩

theorem Sx.name {B9 n c9 : Nat} {w9 wr : World} {a9 : Option Addr} {Zx : List SZ} (h : Sx B9 w9 (.slice a9 n c9) n Zx wr) {j : Nat} (hj : j < n) (u : Value) :
    ∃ g, a9 = some ⟨g, 0, none⟩ ∧ (∃ x, wr.cell? ⟨g, j * 4 + 1, none⟩ = some x) ∧ wr.frozen? ⟨g, j * 4 + 1, none⟩ = false ∧ Sx B9 w9 (.slice a9 n c9) n Zx (wr.setCell ⟨g, j * 4 + 1, none⟩ u) := by
  obtain ⟨g, rfl, hg, _, hx, hf⟩ := h.row.at (j := j * 4 + 1) (by omega)
  exact ⟨g, rfl, hx, hf, h.set u hg fun _ k _ => by omega⟩

theorem Sx.head {B9 n c9 : Nat} {w9 wr : World} {a9 : Option Addr} {Zx : List SZ} (h : Sx B9 w9 (.slice a9 n c9) n Zx wr) {j : Nat} (hj : j < n) : ∃ g, a9 = some ⟨g, 0, none⟩ ∧ wr.cell? ⟨g, j * 4 + 3, none⟩ = some (szAt Zx j).2.2.2.1 := by
  obtain ⟨g, rfl, _⟩ := h.row.at (j := j * 4 + 1) (by omega)
  exact ⟨g, rfl, h.cell g rfl j hj⟩

theorem Sx.path {B9 n : Nat} {w9 wr : World} {v : Value} {Zx : List SZ} (h : Sx B9 w9 v n Zx wr) {z : SZ} (hz : z ∈ Zx) {az : Option Addr} {zn cz : Nat} (he : z.2.2.2.1 = .slice az zn cz) (hn : zn = z.2.2.2.2.length) {m : Nat} (hm : m < zn) (u : Value) :
    ∃ g, az = some ⟨g, 0, none⟩ ∧ (∃ x, wr.cell? ⟨g, m * 3, none⟩ = some x) ∧ wr.frozen? ⟨g, m * 3, none⟩ = false ∧ Sx B9 w9 v n Zx (wr.setCell ⟨g, m * 3, none⟩ u) := by
  have hy := h.ents z hz
  rw [he, ← hn] at hy
  obtain ⟨g, rfl, hg, _, hx, hf⟩ := hy.at (j := m * 3) (by omega)
  refine ⟨g, rfl, hx, hf, h.set u hg fun hv => ?_⟩
  obtain ⟨c1, h1⟩ := hy.block rfl
  obtain ⟨c2, h2⟩ := h.row.block hv
  rw [h1] at h2
  simp at h2

/-- The blocks that are written over: the keys that were handed in, and what was told, if there is any. -/
def Fs (ob : Value) (kb : Value) (n3 : Nat) (ev : Value) (n4 : Nat) (Y : List (Ent × Value)) (k : Nat) : Prop := ob.ownBlock = some k ∨ (0 < n3 ∧ kb.ownBlock = some k) ∨ (0 < n4 ∧ (ev.ownBlock = some k ∨ ∃ z ∈ Y, z.2.ownBlock = some k))

/-- Behind the call: what is written over lies apart from the catalog. -/
theorem stay_far {w0 w7 w8 : World} {p : Nat} {v v5 : Value} {Z Z5 : List SZ} {r : Rq} {y : An} {ob : Value} {on : Nat} {us : List Value} {Y4 : List (Ent × Value)} (h : Lw w0 p p v Z w7) (hD : Did p p v Z r w7 y v5 Z5 w8) (hs : (v5 = v ∧ Z5 = Z) ∨ Bare (full (Z.map snapOf) r).1)
    (ho : w7.ownsRow p 9 1 ob on us) (hob : ∀ b, ob.ownBlock = some b → ¬ Owns p v Z b ∧ ¬ KB Z b)
    (h3 : w8.ownsRow w7.heap.size 9 1 (.slice y.s3 y.n3 y.c3) (full (Z.map snapOf) r).1.keys.length (sv (full (Z.map snapOf) r).1.keys)) (n3 : y.n3 = (full (Z.map snapOf) r).1.keys.length) (hY : Y4.map (·.1) = (full (Z.map snapOf) r).1.ents) (h4 : EOwn w7.heap.size (.slice y.s4 y.n4 y.c4) Y4 w8) (n4 : y.n4 = (full (Z.map snapOf) r).1.ents.length) :
    ∀ k, Fs ob (.slice y.s3 y.n3 y.c3) y.n3 (.slice y.s4 y.n4 y.c4) y.n4 Y4 k → (¬ Owns p v5 Z5 k ∧ ¬ KB Z5 k) ∧ k < w8.heap.size ∧ p ≤ k ∧ ∃ c, w8.heap[k]? = some (.cells c 9 (0, 0)) ∨ w8.heap[k]? = some (.cells c 39 (0, 0)) := by
  have hsz := hD.next.turn.size
  have hnew : ∀ k, w7.heap.size ≤ k → (v5 = v ∧ Z5 = Z) → ¬ Owns p v5 Z5 k ∧ ¬ KB Z5 k := fun k hk ⟨e1, e2⟩ => by
    subst e1; subst e2
    exact ⟨fun ho => by have := (h.cat.owns ho).2; omega, fun hK => by have := h.cat.kb2 hK; omega⟩
  have hfit := h.fit
  rintro k (hk | ⟨h0, hk⟩ | ⟨h0, hk⟩)
  · have hlt := ho.lt k hk
    obtain ⟨f1, f2⟩ := hob k hk
    refine ⟨⟨fun hO => ?_, fun hK => ?_⟩, by omega, hlt.1, ?_⟩
    · rcases hD.next.owns k hO with e | e
      · exact f1 e
      · omega
    · rcases hD.next.keys k hK with e | e
      · exact f2 e
      · omega
    · obtain ⟨c, hc⟩ := own_block (hD.next.keep h.cat ho (by decide) (by decide) (by decide)) hk
      exact ⟨c, .inl hc⟩
  · have hlt := h3.lt k hk
    have hvz := hs.resolve_right fun hb => by rw [n3, hb.2.1] at h0; simp at h0
    obtain ⟨c, hc⟩ := own_block h3 hk
    exact ⟨hnew k hlt.1 hvz, hlt.2, by omega, c, .inl hc⟩
  · have hvz := hs.resolve_right fun hb => by rw [n4, hb.2.2] at h0; simp at h0
    rcases hk with hk | ⟨z, hz, hk⟩
    · have hlt := h4.1.lt k hk
      obtain ⟨c, hc⟩ := own_block h4.1 hk
      exact ⟨hnew k hlt.1 hvz, hlt.2, by omega, c, .inr hc⟩
    · have hlt := (h4.2 z hz).lt k hk
      obtain ⟨c, hc⟩ := own_block (h4.2 z hz) hk
      exact ⟨hnew k hlt.1 hvz, hlt.2, by omega, c, .inl hc⟩

/-- How it stands at first. -/
theorem st_first {F : Nat → Prop} {w10 : World} {B1 B2 B3 : Nat} {ob kb : Value} {on kn n4 c4 : Nat} {a4 : Option Addr} {us ws : List Value} {Y4 : List (Ent × Value)} (ho : w10.ownsRow B1 9 1 ob on us) (hk : w10.ownsRow B2 9 1 kb kn ws) (he : EOwn B3 (.slice a4 n4 c4) Y4 w10) (hn : n4 = Y4.length) : St F w10 ob on kb kn (.slice a4 n4 c4) n4 Y4 w10 := by
  refine ⟨Turn.of_below (Below.refl _ _), rfl, ⟨_, own_any ho (Nat.zero_le _)⟩, ⟨_, own_any hk (Nat.zero_le _)⟩, ⟨_, by rw [hn]; exact own_any (by have := he.1; rw [hn] at this; exact this) (Nat.zero_le _)⟩, fun z hz => ⟨_, own_any (he.2 z hz) (Nat.zero_le _)⟩ , fun g hg j hj => ?_⟩
  rcases he.1.2 with ⟨e, h0⟩ | ⟨g', cap, cur, e, _⟩
  · omega
  · simp only [Value.slice.injEq] at e
    obtain ⟨rfl, e2, rfl⟩ := e
    simp [Value.ownBlock] at hg
    subst hg
    have hj' : j < Y4.length := by omega
    have hc := he.1
    rw [e2] at hc
    rw [hc.cellAt (j * 3 + 2) (by omega), cellsOf_at Y4 j 2 hj' (by decide), enc_key (he.2 _ (zOf_mem hj'))]
    rfl
end Go.Proofs.Ytejhnobhpjlkaaa.Cat
