package group_test

import (
	"bytes"
	"slices"
	"testing"

	"pyx/api"
	"pyx/group"
	"pyx/hash"
)

// elsewhere is what was reckoned elsewhere, of a commit and the epoch behind it: the digests of the content, of the epoch's secrets one behind the other, and of the tree; the rest as it is.
type elsewhere struct {
	content, proof, sign, log, secrets, tree string
	boxes                                    []api.Sealed
}

// come is what is proposed for a member to come, of a seed of bytes that are counted.
func come(name, first int) api.Prop {
	return api.Prop{Kind: api.PAdd, Name: name, Pub: publicOf(counted(32, first))}
}

// isEpochElsewhere asks that a group is in the epoch that was reckoned elsewhere.
func isEpochElsewhere(t *testing.T, at int, g api.Group, want elsewhere) {
	t.Helper()
	digest, _ := hash.Tree(g.Tree, len(g.Tree)/2)
	secrets := sumOf(g.Sec.Init, g.Sec.Send, g.Sec.Export, g.Sec.Confirm, g.Sec.Resume)
	if !group.Right(g) || told(g.Log) != want.log || told(secrets) != want.secrets || told(digest) != want.tree {
		t.Errorf("%d, member of leaf %d: log %x, secrets %x, tree %x; want %s, %s, %s", at, g.Me, g.Log, secrets, digest, want.log, want.secrets, want.tree)
	}
}

// isCommitElsewhere asks that a commit, and those who are welcomed by it, are told what was reckoned elsewhere.
func isCommitElsewhere(t *testing.T, at int, o outcome, want elsewhere) {
	t.Helper()
	c := o.Com
	if o.E != api.OK || told(sumOf(group.Content(c))) != want.content || told(c.Proof) != want.proof || told(c.Sign) != want.sign {
		t.Errorf("%d: error %d, content %x, proof %x, sign %x; want %s, %s, %s", at, o.E, sumOf(group.Content(c)), c.Proof, c.Sign, want.content, want.proof, want.sign)
	}
	var boxes []api.Sealed
	for _, w := range o.Welcomes {
		boxes = append(boxes, w.Box)
	}
	if told(boxes) != told(want.boxes) {
		t.Errorf("%d: boxes %s; want %s", at, told(boxes), told(want.boxes))
	}
}

// P14.1, P14.2, P14.3, P14.4, P14.5: what was reckoned elsewhere: six commits, by which members come and go, and shared secrets are taken in; who makes one, who processes it, and who joins by it; and messages in the end.
func TestToldElsewhere(t *testing.T) {
	psk := []api.Psk{{Id: 4, Secret: []byte("four")}, {Id: 9, Secret: []byte("nine")}}
	first, _ := group.Create([]byte("id"), 1, counted(32, 1), counted(32, 40))
	isEpochElsewhere(t, 0, first, elsewhere{log: "0000000000000000000000000000000000000000000000000000000000000000", secrets: "be84850d248dcc271f12886aebee1e628a979dcc91abb876e0d187237e0406c4", tree: "c3a47f0012dd82eac4d8bab2cc7364820eecd378304fb24b395865fa35692963"})
	if _, m, e := group.Send(first, []byte("self")); e != api.OK || told(m.Box) != "676703f34507203ddd2c7cdf6a02eb95fe5413207ad022c4ea6906afdc00891c7c35acff" {
		t.Errorf("alone: %d, %x", e, m.Box)
	}
	first.Psk = psk
	in := map[int]api.Group{1: first}
	for k, x := range stepsElsewhere(t) {
		o := commit(in[x.by], x.l, counted(32, 100+k), counted(32, 140+k))
		isCommitElsewhere(t, k+1, o, x.want)
		next := map[int]api.Group{x.by: o.Next}
		for name, g := range in {
			goes := slices.ContainsFunc(x.l, func(p api.Prop) bool { return p.Kind == api.PRemove && p.Name == name })
			if name != x.by && !goes {
				var e api.Errno
				if next[name], e = group.Process(g, o.Com); e != api.OK {
					t.Errorf("%d: %d processes: %d", k+1, name, e)
				}
			}
		}
		for n, w := range o.Welcomes {
			name := x.first + n
			var e api.Errno
			if next[name], e = group.Join(w, name, counted(32, 78+name), psk); e != api.OK {
				t.Errorf("%d: %d joins: %d", k+1, name, e)
			}
		}
		in = next
		for _, g := range in {
			isEpochElsewhere(t, k+1, g, x.want)
		}
	}
	if len(in) != 4 {
		t.Errorf("%d members", len(in))
	}
	areMessagesElsewhere(t, in)
}

// stepElsewhere is a commit that was reckoned elsewhere: by whom, what is proposed, and the name of the first one who comes; those behind have the names behind.
type stepElsewhere struct {
	by, first int
	l         []api.Prop
	want      elsewhere
}

func stepsElsewhere(t *testing.T) []stepElsewhere {
	return []stepElsewhere{
		{1, 2, []api.Prop{come(2, 80), take(9), take(4)}, elsewhere{
			content: "055383be65c20d0cdc0af495f8aa8a4998f527a885fb56bf71d145a0af3922a3",
			proof:   "acc4d4e1795d257861736a20532d504d1c389f7f68f55c47ba54132d48d63eb9",
			sign:    "575abd0bea3a683ee1ba5783969a8f60c1ab68c28c4c3274fd65e461bceede84",
			log:     "4c649d8aca4a171df3e5c8fc4a626f4d97be2a866b441f4c7c20e5c27c39c959",
			secrets: "33f17843b901092336807a5f8111f1648b458871fa7ad157c8ff40b99ebbf525",
			tree:    "f3012a98d176899c587a3bd3bebc74ad83ab684e9e9e8d661f89b075da226b17",
			boxes:   []api.Sealed{{Half: unhex(t, "894a51607efdef3bfd8130b019259b6ebfbb283a65850b8faf772b6ec17600a9"), B: unhex(t, "c3874686f82c6c6aec67ec970850d9fbaebec1d1dd3a9ed1231ba12c72621b18c18e9ccc9a2c1a4fb336d337ab1fe7edbaf5650c86ff2842d260104dfb6b23ce1e95ab05a6e8b56368556cd526446fa02bd1f78f9e5162e4729aa4e45dc2c290")}},
		}},
		{2, 3, []api.Prop{come(3, 81), come(4, 82)}, elsewhere{
			content: "56878b3c9714be46f891d7747b659f12905b6ba7c2e1eec56be5fb443db73484",
			proof:   "4d866537289b06da0e9630f26cd90b649be53c08e35d996b95a51d4152de9d45",
			sign:    "7ecea851d0251ddc7e9a95d68c1172808306dcd0c0819c4d8815c38506b05b2e",
			log:     "afa0fa30a2c96b2c15c54bb5b3ff85e7eee4f0e1cc0c4a026641975a8b9a397c",
			secrets: "c7f2dbbd3a101c6b9b27e6152de2f464f9b5811e994d8823afdbcdbbafaa6df4",
			tree:    "d79da0fe21280cb92232a5e62b79f92fec12d52c4ba094e86c1e1ac0d2438539",
			boxes:   []api.Sealed{{Half: unhex(t, "ff19e3a5d04b2bc4b3b2689c166c015dbc42b4009cec46411cc01b64a73177ac"), B: unhex(t, "9d73ba120e4638336440208586c5e22083b817bfc59e375a265bb64f7ea7705946685401d43c9810e49415092d2640db3ba25340eb92d3a038624ca7333f8406d1429a44fa61d8ba07fe7f245cb505810ba0befbe4fe9db7fc30c66ec85d9208")}, {Half: unhex(t, "6cdd7865523c5ceb1cf0e01863a9d430f4471e98018f47028bac7fb5eb2f387a"), B: unhex(t, "1254ddef35c9eb1e0c19f55bd4e37bff56cf7c0338738892f6edf6d8571ecff54b76c69f4e318314b95c76fe8436f5f396606582d9bfe5701221aadcdc15f986099ed289adc5d0ab5dd3ef625fbc171bfe3a0af67cd377158d6cca500b4ee92b")}},
		}},
		{1, 5, []api.Prop{come(5, 83), remove(2), come(6, 84)}, elsewhere{
			content: "ad819dc455f7941dd85270d0a2d904916d282f7257f6a8d456f0c107403914c8",
			proof:   "d65fbfd5ab26b830e3886cc90dd3fd94099e16a1590c4443428e3853706d065d",
			sign:    "c1534e6d19c993c7621022d4ce0d97a5f6344ff030e52e8f8fcc1989b53f853d",
			log:     "60ce396b59c03a266861ee79b138dfac9d759e73198a3dc9fa3ecf23bcc54c6b",
			secrets: "5a4d4a27ff532728a17d55d38e7b67f9bf622c04361cc64570794f41d418bfd1",
			tree:    "d074cb7ad3628b9e16ff777c4c94b962e1915bb54e57a1e93b4837c1ded97fcd",
			boxes:   []api.Sealed{{Half: unhex(t, "4fbe0b79a3c56a2e2a5de58cc38617831f4c1d7f89e0cd82b4261227aa0b798d"), B: unhex(t, "4893a154766f757270177794a803b7882995fba104cfefb8c04595eaab4dff42d09403e5e843a5724e7b51a3062aff33ae015596a7f63d4b733dc24a18aa2070f422f322ab605e3947dd066f9a07c30c15482a15f034f59a18f8c4b9009d7f03")}, {Half: unhex(t, "f38cc53d85d83631e935f15a8675167557b03ee347d5dff2d94dc11601130b4d"), B: unhex(t, "37eef79c37bf10d5be89ffcd86e16e15b5b77c3ab9201cb77f64a24e93d5a3c45a2b8ed9836d6776331daef530f2deab4722d8dd56df4752703f19b445ec548673e26e48a2fe36def4675c81e9c919e457c41af385d814889b449e300a4c52ce")}},
		}},
		{4, 0, nil, elsewhere{
			content: "a15485422c910a3b9a07d495f84ae7296870870124a4d4b5e23917281ccc4d39",
			proof:   "65015b06e9a927d0c2c447e9392fe18ee707a86ab60cb01bab2a41951b1702f3",
			sign:    "3f740538957d0ed03e9332d4e206fbe8b39f8b55e615b4feca9e078f2e576b03",
			log:     "facbd4d7aa084f9f6f8c339160d238920cf617d58e5bd1bf45f1d5ec04ff0418",
			secrets: "bc52dd6fa405a2735dc0ea42e831cc2c1ede9d5907473eb285c5c368b3438864",
			tree:    "87d30aac9a3ef01305622f6c6abdeb6d01c44e5ec423f616f54eb894319058ec",
			boxes:   nil,
		}},
		{3, 7, []api.Prop{take(4), come(7, 85), take(4)}, elsewhere{
			content: "8ab3e5fa4780684af7309538240880e85427927983c2c561fef0e2273e0908ee",
			proof:   "31b79633428c8e202a2e9d35ba01bba9061e53d2c00a0a0b98915531db630923",
			sign:    "78d43571329e091afe8be2871b7de1fe4c89f88724ac7d27df1b83ca145a4fa4",
			log:     "d272792566e47b599694c45bf828f26f18611deb58a6e0fa43a05d449b073660",
			secrets: "c049e79c575998b9419b433c6408315de976ddad2f3544e56cc45b2b199e2187",
			tree:    "ff081b7592dd9eb964d8f1f91261dfa5f51be740c0a8d018dd9a707588b31bbe",
			boxes:   []api.Sealed{{Half: unhex(t, "b894b56a317d27d0d1e2083d1883bde731e484b9cf3ee7b8c8cf91ccc406142b"), B: unhex(t, "2c1f9300038b938d1baee06d36df26b4a7f4cc14c3a23e0d6a062c2aa6e5eb0c33a97ef0d4fbd60bdee0dc67d8378a8cdbfa76839547702c9c36584b3322bd55f29e48c8d15de373688bfccdf0ee1cc5e8ad0089b13c33a6a9f546ad1da2515b")}},
		}},
		{1, 0, []api.Prop{remove(7), remove(6)}, elsewhere{
			content: "5cd1508f6b63c6c458a6dfdd36557a3cfe5421d73d5f2b89fa8389aef8b2c14d",
			proof:   "6b1b9b2fabdbced34f95c984f0170d3b1ac1b31aae98a7d99b1496c190322551",
			sign:    "9fce09144a8b4226d42e2630de835fb0166a6ff664575047b7e5611d3550e9cc",
			log:     "96c8693d18f41f29f82baf028192305eec0866d8736bcf3b1e359b51d548c13c",
			secrets: "c95127e0f43614b93a887b25b428c284665f6498208de05fb527e45323cd6dda",
			tree:    "1af4a532965443c64afd002bf01d8873cf1c079dd24212a03d6ddb36aba20e17",
			boxes:   nil,
		}},
	}
}

// areMessagesElsewhere asks that members send the messages that were reckoned elsewhere, and that all others open them.
func areMessagesElsewhere(t *testing.T, in map[int]api.Group) {
	t.Helper()
	for _, x := range []struct {
		by, from, at int
		b, box       string
	}{
		{1, 0, 0, "one", "e5cf9bab7af085d598bf82de5e1201296598e652c95bc008ea384b4d4bc5da16649e8e"},
		{1, 0, 1, "two", "af0eca18dd20dc60134a6f4b022db7d84cde9de367e3f11c35213e236cbda0b36f31b9"},
		{4, 3, 0, "", "3186918452999037780d672071b100c1e070ef7a53e491a5b901c262bd7a6049"},
		{3, 2, 0, "to all", "fa20e8943c53fb49f82bbfac00cfbef84a5676f2350276679541ae4d6856ce8e59bdbd0058f4"},
	} {
		next, m, e := group.Send(in[x.by], []byte(x.b))
		if e != api.OK || m.Epoch != 6 || m.From != x.from || m.At != x.at || told(m.Box) != x.box {
			t.Errorf("by %d: %d, %s", x.by, e, told(m))
		}
		in[x.by] = next
		for name, g := range in {
			if name != x.by {
				after, b, e := group.Open(g, m)
				if e != api.OK || !bytes.Equal(b, []byte(x.b)) {
					t.Errorf("by %d, opened by %d: %d, %q", x.by, name, e, b)
				}
				in[name] = after
			}
		}
	}
}
