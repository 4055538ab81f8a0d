package group_test

import (
	"bytes"
	"crypto/aes"
	"crypto/cipher"
	"crypto/hkdf"
	"crypto/hmac"
	"crypto/sha256"
	"encoding/binary"
	"encoding/hex"
	"fmt"
	"reflect"
	"slices"
	"strconv"
	"testing"

	"pyx/api"
	"pyx/group"
	"pyx/hash"
	"pyx/path"
	"pyx/ratch"
	"pyx/tree"
)

const (
	least     = -1 << 63  // the least number that there is
	greatest  = 1<<63 - 1 // the greatest one
	lastEpoch = 1<<48 - 2 // behind which there is no other one
)

// wrongLengths are such that no secret has: about 32, and others whose lowest bits are those of 32, and none.
var wrongLengths = []int{0, 1, 16, 31, 33, 63, 64, 96, 256, 288, 65536 + 32}

// counted is n bytes that rise by one, from the first one on.
func counted(n, first int) []byte {
	b := make([]byte, n)
	for i := range b {
		b[i] = byte(first + i)
	}
	return b
}

// unhex is what a text of bytes tells.
func unhex(t *testing.T, s string) []byte {
	t.Helper()
	b, err := hex.DecodeString(s)
	if err != nil {
		t.Fatal(err)
	}
	return b
}

// seedAt is 32 bytes that hang on a number alone.
func seedAt(n int) []byte { return sumOf([]byte("seed " + strconv.Itoa(n))) }

// num is a number of w bytes.
func num(n, w int) []byte { return binary.BigEndian.AppendUint64(nil, uint64(n))[8-w:] }

// rowOf is a row.
func rowOf(x []byte) []byte {
	switch n := len(x); {
	case n < 1<<6:
		return append([]byte{byte(n)}, x...)
	case n < 1<<14:
		return append(num(n+1<<14, 2), x...)
	default:
		return append(num(n+1<<31, 4), x...)
	}
}

// sumOf is the library's digest of parts one behind the other.
func sumOf(parts ...[]byte) []byte {
	sum := sha256.Sum256(slices.Concat(parts...))
	return sum[:]
}

// tagOf is the library's tag of rows one behind the other.
func tagOf(key []byte, rows ...[]byte) []byte {
	h := hmac.New(sha256.New, key)
	for _, row := range rows {
		h.Write(row)
	}
	return h.Sum(nil)
}

// labelOf is bytes of a secret, as the library has them.
func labelOf(secret []byte, label string, context []byte, n int) []byte {
	info := slices.Concat(num(n, 2), rowOf([]byte("MLS 1.0 "+label)), rowOf(context))
	out, err := hkdf.Expand(sha256.New, secret, string(info), n)
	if err != nil {
		panic(err)
	}
	return out
}

// agreedOf is a secret of a salt and another one.
func agreedOf(salt, secret []byte, label string, context []byte) []byte {
	return labelOf(tagOf(salt, secret), label, context, 32)
}

// publicOf is a seed's public half.
func publicOf(seed []byte) []byte { return labelOf(seed, "public", nil, 32) }

// signOf is the signature of a commit by whose public half that is.
func signOf(public []byte, c api.Commit) []byte {
	return tagOf(public, rowOf([]byte("MLS 1.0 commit")), rowOf(append(contentOf(c), c.Proof...)))
}

// sealOf is what the library locks and tags.
func sealOf(key, nonce, with, b []byte) []byte {
	c, err := aes.NewCipher(labelOf(key, "lock", nil, 16))
	if err != nil {
		panic(err)
	}
	locked := make([]byte, len(b))
	cipher.NewCTR(c, append(bytes.Clone(nonce), 0, 0, 0, 1)).XORKeyStream(locked, b)
	return append(locked, tagOf(labelOf(key, "tag", nil, 32), rowOf(with), nonce, locked)...)
}

// wrapOf is what the library wraps for a public half.
func wrapOf(public, once, info, b []byte) api.Sealed {
	half := publicOf(once)
	secret := tagOf(public, half)
	return api.Sealed{Half: half, B: sealOf(labelOf(secret, "key", info, 32), labelOf(secret, "nonce", info, 12), nil, b)}
}

// contentOf is a commit's content.
func contentOf(c api.Commit) []byte {
	var b bytes.Buffer
	number := func(n, w int) { b.Write(num(n, w)) }
	row := func(x []byte) { b.Write(rowOf(x)) }
	row(c.Id)
	number(c.Epoch, 6)
	number(c.From, 2)
	number(len(c.Prop), 2)
	for _, p := range c.Prop {
		number(p.Kind, 1)
		number(p.Name, 2)
		row(p.Pub)
	}
	row(c.Path.Pub)
	number(len(c.Path.Step), 2)
	for _, s := range c.Path.Step {
		row(s.Pub)
		number(len(s.For), 2)
		for _, box := range s.For {
			row(box.Half)
			row(box.B)
		}
	}
	return b.Bytes()
}

// proofOf is what proves an epoch.
func proofOf(g api.Group) []byte { return tagOf(g.Sec.Confirm, g.Log) }

// contextOf is what an epoch belongs to.
func contextOf(g api.Group) []byte {
	digest, _ := hash.Tree(g.Tree, (len(g.Tree)-1)/2)
	return slices.Concat(rowOf(g.Id), num(g.Epoch, 6), rowOf(digest), rowOf(g.Log))
}

// withSecrets is a group with all secrets that come of the joiner's, and of those that are taken in.
func withSecrets(g api.Group, joiner []byte, used [][]byte) api.Group {
	shared := make([]byte, 32)
	for k, x := range used {
		shared = tagOf(shared, labelOf(x, "shared", num(k, 2), 32))
	}
	own := agreedOf(joiner, shared, "epoch", contextOf(g))
	of := func(label string) []byte { return labelOf(own, label, nil, 32) }
	g.Sec = api.Epoch{Init: of("init"), Send: of("send"), Export: of("export"), Confirm: of("confirm"), Resume: of("resume")}
	g.Chain = nil
	for i := 0; i <= len(g.Tree)/2; i++ {
		c, _ := ratch.Start(g.Sec.Send, len(g.Tree)/2+1, i)
		g.Chain = append(g.Chain, c)
	}
	return g
}

// createdOf is a group of one.
func createdOf(id []byte, name int, seed, secret []byte) api.Group {
	return withSecrets(api.Group{
		Id:   id,
		Tree: []api.Node{{Kind: api.Leaf, Name: name, Pub: publicOf(seed)}},
		Own:  []api.Seed{{Seed: seed}},
		Log:  make([]byte, 32),
	}, secret, nil)
}

// nextOf is a group in the next epoch, and the joiner's secret.
func nextOf(g api.Group, content []byte, m api.Made, used [][]byte) (api.Group, []byte) {
	next := g
	next.Log = sumOf(rowOf(g.Log), rowOf(proofOf(g)), rowOf(content))
	next.Epoch, next.Tree, next.Own = g.Epoch+1, m.Tree, m.Own
	joiner := agreedOf(g.Sec.Init, m.Last, "joiner", contextOf(next))
	return withSecrets(next, joiner, used), joiner
}

// applyOf is the tree behind what is proposed from a leaf, and the secrets that are taken in.
func applyOf(g api.Group, from int, l []api.Prop) (of []api.Node, used [][]byte, e api.Errno) {
	if len(l) > 20 {
		return nil, nil, api.ErrArg
	}
	byKind := map[int][]api.Prop{}
	for _, p := range l {
		if p.Kind < 1 || p.Kind > 3 || p.Name < 0 || p.Name > 65535 {
			return nil, nil, api.ErrArg
		}
		byKind[p.Kind] = append(byKind[p.Kind], p)
	}
	of = g.Tree
	for _, p := range byKind[api.PRemove] {
		i := leafOf(of, p.Name)
		if i < 0 {
			return nil, nil, api.ErrNone
		}
		if i == from {
			return nil, nil, api.ErrState
		}
		if of, e = tree.Remove(of, i); e != api.OK {
			return nil, nil, e
		}
	}
	for _, p := range byKind[api.PAdd] {
		if of, _, e = tree.Add(of, p.Name, p.Pub); e != api.OK {
			return nil, nil, e
		}
		if len(of) > 127 {
			return nil, nil, api.ErrBig
		}
	}
	for _, p := range byKind[api.PPsk] {
		at := slices.IndexFunc(g.Psk, func(x api.Psk) bool { return x.Id == p.Name })
		if at < 0 {
			return nil, nil, api.ErrNone
		}
		used = append(used, g.Psk[at].Secret)
	}
	return of, used, api.OK
}

// leafOf is the leaf of a name; -1, if there is none.
func leafOf(of []api.Node, name int) int {
	for x := 0; x < len(of); x += 2 {
		if of[x].Kind == api.Leaf && of[x].Name == name {
			return x / 2
		}
	}
	return -1
}

// seedOf is the seed of a node that a group knows.
func seedOf(g api.Group, node int) []byte {
	for _, s := range g.Own {
		if s.Node == node {
			return s.Seed
		}
	}
	return nil
}

// outcome is what Commit answers.
type outcome struct {
	Next     api.Group
	Com      api.Commit
	Welcomes []api.Welcome
	E        api.Errno
}

// commitOf is what Commit is to answer.
func commitOf(g api.Group, l []api.Prop, seed, secret []byte) outcome {
	if len(seed) != 32 || len(secret) != 32 {
		return outcome{Next: g, E: api.ErrArg}
	}
	if g.Epoch == lastEpoch {
		return outcome{Next: g, E: api.ErrBig}
	}
	of, used, e := applyOf(g, g.Me, l)
	if e != api.OK {
		return outcome{Next: g, E: e}
	}
	m, e := path.Make(of, g.Me, seed, secret, g.Id)
	if e != api.OK {
		return outcome{Next: g, E: e}
	}
	c := api.Commit{Id: g.Id, Epoch: g.Epoch, From: g.Me, Prop: l, Path: m.Path}
	next, joiner := nextOf(g, contentOf(c), m, used)
	c.Proof = proofOf(next)
	c.Sign = signOf(publicOf(seedOf(g, 2*g.Me)), c)
	out := outcome{Next: next, Com: c}
	for _, p := range l {
		if p.Kind == api.PAdd {
			once := labelOf(secret, "welcome", num(len(out.Welcomes), 2), 32)
			box := wrapOf(p.Pub, once, g.Id, append(bytes.Clone(joiner), proofOf(g)...))
			out.Welcomes = append(out.Welcomes, api.Welcome{Tree: of, Log: g.Log, Com: c, Box: box})
		}
	}
	return out
}

// commit is what Commit answers.
func commit(g api.Group, l []api.Prop, seed, secret []byte) outcome {
	next, c, w, e := group.Commit(g, l, seed, secret)
	return outcome{next, c, w, e}
}

// processOf is what Process is to answer of a commit that is right, by a group that may process it.
func processOf(g api.Group, c api.Commit) (api.Group, api.Errno) {
	of, used, e := applyOf(g, c.From, c.Prop)
	if e != api.OK {
		return g, e
	}
	var own []api.Seed
	for _, s := range g.Own {
		if s.Node < len(of) && of[s.Node].Kind != api.Blank {
			own = append(own, s)
		}
	}
	m, e := path.Take(of, c.From, g.Me, own, g.Id, c.Path)
	if e != api.OK {
		return g, e
	}
	next, _ := nextOf(g, contentOf(c), m, used)
	return next, api.OK
}

// told is anything as a text that tells all of it.
func told(x any) string { return fmt.Sprintf("%x", x) }

// cloned is anything that shares no memory with another one.
func cloned[T any](x T) T {
	out := reflect.New(reflect.TypeOf(x)).Elem()
	cloneInto(out, reflect.ValueOf(x))
	return out.Interface().(T)
}

func cloneInto(out, x reflect.Value) {
	switch x.Kind() {
	case reflect.Slice:
		if x.IsNil() {
			return
		}
		out.Set(reflect.MakeSlice(x.Type(), x.Len(), x.Len()))
		for k := range x.Len() {
			cloneInto(out.Index(k), x.Index(k))
		}
	case reflect.Struct:
		for k := range x.NumField() {
			cloneInto(out.Field(k), x.Field(k))
		}
	default:
		out.Set(x)
	}
}

// crowd is the members of a group, by their names, and how many secrets were drawn.
type crowd struct {
	t     *testing.T
	in    map[int]api.Group
	drawn int
}

// shared is secrets that all members of a crowd share.
func shared() []api.Psk {
	return []api.Psk{{Id: 0, Secret: []byte{0}}, {Id: 4, Secret: []byte("four")}, {Id: 9, Secret: counted(64, 9)}, {Id: 65535, Secret: counted(33, 5)}}
}

// newCrowd is a group of those names, where the first one takes all others in, one by one.
func newCrowd(t *testing.T, id []byte, names ...int) *crowd {
	t.Helper()
	c := &crowd{t: t, in: map[int]api.Group{}}
	g, e := group.Create(id, names[0], c.draw(), c.draw())
	if e != api.OK {
		t.Fatal(e)
	}
	g.Psk = shared()
	c.in[names[0]] = g
	for _, name := range names[1:] {
		c.step(names[0], add(name))
	}
	return c
}

// draw is another secret each time.
func (c *crowd) draw() []byte {
	c.drawn++
	return seedAt(c.drawn)
}

// beforehand is the seed of which a member, that is to come, tells the public half.
func beforehand(name int) []byte { return seedAt(1<<20 + name) }

// add is what is proposed for a member to come.
func add(name int) api.Prop {
	return api.Prop{Kind: api.PAdd, Name: name, Pub: publicOf(beforehand(name))}
}

// remove is what is proposed for a member to go.
func remove(name int) api.Prop { return api.Prop{Kind: api.PRemove, Name: name} }

// take is what is proposed for a shared secret to be taken in.
func take(name int) api.Prop { return api.Prop{Kind: api.PPsk, Name: name} }

// names are those of all members, rising.
func (c *crowd) names() []int {
	var out []int
	for name := range c.in {
		out = append(out, name)
	}
	slices.Sort(out)
	return out
}

// step is a commit by a member: all others process it, or go, and those that come join. All is held against what is to be answered, and each against the one who made it.
func (c *crowd) step(by int, l ...api.Prop) outcome {
	c.t.Helper()
	seed, secret := c.draw(), c.draw()
	want := commitOf(c.in[by], l, seed, secret)
	got := commit(c.in[by], l, seed, secret)
	if got.E != api.OK || told(got) != told(want) {
		c.t.Fatalf("commit by %d of %x: error %d\n%s\nwant error %d\n%s", by, l, got.E, told(got), want.E, told(want))
	}
	next := map[int]api.Group{by: got.Next}
	for name, g := range c.in {
		if name == by {
			continue
		}
		after, e := group.Process(g, got.Com)
		if slices.ContainsFunc(l, func(p api.Prop) bool { return p.Kind == api.PRemove && p.Name == name }) {
			if e != api.ErrState || told(after) != told(g) {
				c.t.Fatalf("%d, who goes: error %d", name, e)
			}
			continue
		}
		model, ex := processOf(g, got.Com)
		if e != api.OK || ex != api.OK || told(after) != told(model) {
			c.t.Fatalf("%d processes: error %d\n%s\nwant error %d\n%s", name, e, told(after), ex, told(model))
		}
		next[name] = after
	}
	for _, p := range l {
		if p.Kind == api.PAdd {
			g, e := group.Join(got.Welcomes[len(next)-stayed(c.in, l)], p.Name, beforehand(p.Name), shared())
			if e != api.OK {
				c.t.Fatalf("%d joins: error %d", p.Name, e)
			}
			next[p.Name] = g
		}
	}
	c.in = next
	c.agree()
	return got
}

// stayed is how many members neither go nor come.
func stayed(in map[int]api.Group, l []api.Prop) int {
	n := len(in)
	for _, p := range l {
		if p.Kind == api.PRemove {
			n--
		}
	}
	return n
}

// agree asks that all members have the same, but what is each one's own, and that each one is right.
func (c *crowd) agree() {
	c.t.Helper()
	var first string
	for _, name := range c.names() {
		g := c.in[name]
		if !group.Right(g) || g.Me != leafOf(g.Tree, name) {
			c.t.Fatalf("%d isn't right: %s", name, told(g))
		}
		g.Me, g.Own = 0, nil
		if first == "" {
			first = told(g)
		}
		if told(g) != first {
			c.t.Fatalf("%d has something else: %s\nthan %s", name, told(g), first)
		}
	}
	if len(c.in) > 0 && countLeaves(c.in[c.names()[0]].Tree) != len(c.in) {
		c.t.Fatalf("%d members, %d leaves", len(c.in), countLeaves(c.in[c.names()[0]].Tree))
	}
}

// countLeaves is how many leaves aren't Blank.
func countLeaves(of []api.Node) int {
	n := 0
	for _, x := range of {
		if x.Kind == api.Leaf {
			n++
		}
	}
	return n
}

// busy is a crowd of a tree with Parents, Blank nodes, a Blank leaf (1), and a Parent (11) that tells a leaf (7, which is 21's) among its Un.
func busy(t *testing.T) *crowd {
	t.Helper()
	c := newCrowd(t, []byte("busy"), 10, 11, 12, 13, 14, 15, 16, 17)
	c.step(12, take(9), take(4))
	c.step(10, remove(13), remove(17))
	c.step(16)
	c.step(14)
	c.step(10, add(20), add(21), take(0))
	c.step(10, remove(11))
	return c
}

// draws tells numbers that hang on the first one alone.
type draws uint64

// below is the next number, from 0 to one less than n.
func (d *draws) below(n int) int {
	*d = *d*6364136223846793005 + 1442695040888963407
	return int(uint64(*d)>>33) % n
}

// row is n drawn bytes.
func (d *draws) row(n int) []byte {
	b := make([]byte, n)
	for i := range b {
		b[i] = byte(d.below(256))
	}
	return b
}
