package image_test

import (
	"bytes"
	"fmt"
	"slices"
	"strings"
	"testing"
	"time"

	"postbag/api"
	"postbag/image"
	"postbag/post"
)

func file(name, text string) api.File { return api.File{Name: name, Bytes: []byte(text)} }

func listOfRich() []api.File {
	var list []api.File
	for _, f := range richFiles {
		list = append(list, file(f.name, f.text))
	}
	return list
}

// with are files of which one's bytes are others.
func with(files []api.File, i int, text string) []api.File {
	files = slices.Clone(files)
	files[i].Bytes = []byte(text)
	return files
}

// refuseLoad loads what isn't a state's files, by the model, too.
func refuseLoad(t *testing.T, files []api.File) {
	t.Helper()
	if _, is := modelLoad(files); is {
		t.Fatalf("the model loads %s", told(files))
	}
	checkLoad(t, files)
}

// takeLoad loads a state's files.
func takeLoad(t *testing.T, files []api.File) api.State {
	t.Helper()
	if _, is := modelLoad(files); !is {
		t.Fatalf("the model doesn't load %s", told(files))
	}
	return checkLoad(t, files)
}

// P16.1: files in any order.
func TestLoadInAnyOrder(t *testing.T) {
	var permute func(files []api.File, k int)
	permute = func(files []api.File, k int) {
		if k == len(files) {
			if s := takeLoad(t, files); !post.Same(s, rich()) {
				t.Fatalf("Load(%s) answers %s", told(files), told(s))
			}
			return
		}
		for i := k; i < len(files); i++ {
			files[k], files[i] = files[i], files[k]
			permute(files, k+1)
			files[k], files[i] = files[i], files[k]
		}
	}
	permute(listOfRich(), 0)
	for seed := range 200 {
		d := dice(seed)
		s := made(&d, false)
		files, _ := image.Files(s)
		for i := range files {
			j := d.below(i + 1)
			files[i], files[j] = files[j], files[i]
		}
		if got := takeLoad(t, files); !post.Same(got, s) {
			t.Fatalf("Load(%s) answers %s", told(files), told(got))
		}
	}
}

// P16.1: just the files: none less, none more, none twice, none of another name.
func TestLoadJustTheFiles(t *testing.T) {
	refuseLoad(t, nil)
	refuseLoad(t, []api.File{})
	rich := listOfRich()
	for i := range rich {
		refuseLoad(t, slices.Delete(slices.Clone(rich), i, i+1))
		refuseLoad(t, append(slices.Clone(rich), rich[i]))
		refuseLoad(t, append(slices.Clone(rich), file(rich[i].Name, "")))
		refuseLoad(t, append([]api.File{file(rich[i].Name, "other")}, rich...))
		refuseLoad(t, rich[i:i+1])
		for _, name := range []string{"", "index", "indexe", "Index", "m", "m01", "m2", "m1 ", "M1", "m10", "m19", "m20", "q", "q02", "q1", "q2 ", "Q2", "q11", "q-2", "q+2", "redo", "x", "\x00", "\xff", strings.Repeat("m", 1<<20)} {
			others := slices.Clone(rich)
			others[i].Name = name
			if name != rich[i].Name {
				refuseLoad(t, others)
			}
			refuseLoad(t, append(slices.Clone(rich), file(name, "")))
			refuseLoad(t, append(slices.Clone(rich), file(name, string(rich[i].Bytes))))
		}
		for j := range i {
			others := slices.Clone(rich)
			others[i].Name, others[j].Name = rich[j].Name, rich[i].Name
			checkLoad(t, others)
		}
	}
}

// P16.1: files whose bytes are others, in each place: they are no state's, or those of another one.
func TestLoadOfOtherBytes(t *testing.T) {
	rich := listOfRich()
	taken := 0
	for i, f := range rich {
		text := string(f.Bytes)
		for at := range len(text) + 1 {
			texts := []string{text[:at]}
			for _, b := range []byte("\n\x00 >0123m\xff") {
				texts = append(texts, text[:at]+string([]byte{b})+text[at:])
				if at < len(text) {
					texts = append(texts, text[:at]+string([]byte{b})+text[at+1:])
				}
			}
			if at < len(text) {
				texts = append(texts, text[:at]+text[at+1:])
			}
			if at+1 < len(text) {
				texts = append(texts, text[:at]+text[at+1:at+2]+text[at:at+1]+text[at+2:])
			}
			for _, other := range texts {
				files := with(rich, i, other)
				checkLoad(t, files)
				if _, is := modelLoad(files); is && other != text {
					taken++
				}
			}
		}
	}
	if taken < 500 {
		t.Errorf("%d of the other files were a state's", taken)
	}
}

// P16.1: an index whose lines, or words, are others.
func TestLoadOfOtherIndex(t *testing.T) {
	rich := listOfRich()
	lines := strings.SplitAfter(strings.TrimSuffix(richIndex, "\n"), "\n")
	lines[len(lines)-1] += "\n"
	words := []string{"", "0", "00", "01", "+1", "-1", "1 ", " 1", "1", "2", "3", "4", "5", "9", "19", "20", "2147483648", "2147483649", "9223372036854775807", "9223372036854775808", "99999999999999999999999", "1_0", "0x1", "1e1", "１", "x", "a/b", "INBOX", "inbox", "box", "message", "sub", "item", "state", "MESSAGE", "\t", "\r"}
	put := func(lines []string) { checkLoad(t, with(rich, 0, strings.Join(lines, ""))) }
	for i, line := range lines {
		put(slices.Delete(slices.Clone(lines), i, i+1))
		for j := range len(lines) + 1 {
			put(slices.Insert(slices.Clone(lines), j, line))
		}
		for j := range i {
			others := slices.Clone(lines)
			others[i], others[j] = lines[j], lines[i]
			put(others)
		}
		row := strings.Split(strings.TrimSuffix(line, "\n"), " ")
		for k := range row {
			for _, word := range words {
				others := slices.Clone(lines)
				other := slices.Clone(row)
				other[k] = word
				others[i] = strings.Join(other, " ") + "\n"
				put(others)
				others[i] = strings.Join(slices.Insert(slices.Clone(row), k, word), " ") + "\n"
				put(others)
			}
			others := slices.Clone(lines)
			others[i] = strings.Join(slices.Delete(slices.Clone(row), k, k+1), " ") + "\n"
			put(others)
		}
		for _, end := range []string{"", "\r\n", " \n", "\n\n", "\n ", "\n0\n", " 0\n"} {
			others := slices.Clone(lines)
			others[i] = strings.TrimSuffix(line, "\n") + end
			put(others)
		}
	}
	for _, text := range []string{"", "\n", "state", "state\n", "state 1\n", "state 1 1", "state 1 1 1\n", " state 1 1\n", "message 1 0 0 45\n", "message 1 0 0 45\nstate 2 1\nbox 0 1 2 INBOX\n", "box 0 1 1 INBOX\nstate 2 1\n"} {
		refuseLoad(t, []api.File{file("index", text)})
		refuseLoad(t, []api.File{file("index", text), file("m1", begin+"0 1970\n\n")})
	}
	if s := takeLoad(t, []api.File{file("index", "state 1 1\n")}); !post.Same(s, api.State{NextValid: 1, NextItem: 1}) {
		t.Errorf("Load of nobody's index answers %s", told(s))
	}
}

// P16.1: a box's file that isn't the one of the messages that the index tells.
func TestLoadOfOtherBoxFiles(t *testing.T) {
	entry := begin + "0 1970\nx\n"
	index := "state 2 1\nbox 0 1 5 INBOX\nmessage 1 0 0 46\nmessage 4 0 46 92\n"
	if s := takeLoad(t, []api.File{file("index", index), file("m1", entry+entry)}); s.Boxes[0].Messages[1].Body != "x" {
		t.Errorf("Load answers %s", told(s))
	}
	for _, text := range []string{
		"", entry, entry + entry + entry, entry + entry + "\n", "\n" + entry + entry, entry + "\n" + entry,
		entry + strings.Replace(entry, "DAEMON", "DAEMOM", 1),
		entry + strings.Replace(entry, "Thu", "Fri", 1),
		entry + strings.Replace(entry, "Jan  1", "Jan 01", 1),
		entry + strings.Replace(entry, "1970", "2100", 1),
		entry + strings.Replace(entry, "1970", "1969", 1),
		entry + strings.Replace(entry, "00:00:00", "00:00:60", 1),
		entry + strings.TrimSuffix(entry, "\n"),
		entry + begin + "0 1970\nx\r",
		entry + begin + "0 1970\r\n\n",
		entry + entry[:45] + ">",
		entry + entry[:44] + ">\n\n",
		begin + "0 1970\nxyz\n" + begin + "0 1970\n",
		strings.Repeat(" ", 92),
	} {
		refuseLoad(t, []api.File{file("index", index), file("m1", text)})
	}
	refuseLoad(t, []api.File{file("index", index)})
	refuseLoad(t, []api.File{file("index", "state 2 1\nbox 0 1 5 INBOX\n"), file("m1", "")})
	refuseLoad(t, []api.File{file("index", "state 2 1\nbox 0 1 5 INBOX\n"), file("m1", entry)})
	refuseLoad(t, []api.File{file("index", "state 2 1\nbox 0 1 5 INBOX\nmessage 1 0 0 0\n"), file("m1", "")})
	refuseLoad(t, []api.File{file("index", "state 2 1\nbox 0 1 5 INBOX\nmessage 1 0 0 0\n")})
	for _, quoted := range []string{">From a\n", ">>From a\n", ">\n", ">Fro\n", ">from \n", "From\n"} {
		index := fmt.Sprintf("state 2 1\nbox 0 1 5 INBOX\nmessage 1 0 0 %d\n", 44+len(quoted))
		takeLoad(t, []api.File{file("index", index), file("m1", begin+"0 1970\n"+quoted)})
	}
}

// P16.1: made files, some of whose bytes are others.
func TestLoadOfMadeFiles(t *testing.T) {
	taken := 0
	for seed := range 20000 {
		d := dice(seed)
		s := made(&d, true)
		files, _ := image.Files(s)
		for range 1 + d.below(2) {
			i := d.below(len(files))
			text := string(files[i].Bytes)
			at := d.below(len(text) + 1)
			to := min(len(text), at+d.below(3))
			files[i].Bytes = []byte(text[:at] + oneOf(&d, "", "", "0", "1", "x", "\n", " ", "> From", "From ", "\nsub 0 a") + text[to:])
			if d.below(20) == 0 {
				files = slices.Delete(files, i, i+1)
				break
			}
		}
		if checkLoad(t, files); len(files) > 0 {
			if _, is := modelLoad(files); is {
				taken++
			}
		}
	}
	if taken < 500 || taken > 19000 {
		t.Errorf("%d of the made files were a state's", taken)
	}
}

// P16.1: great files that are no state's are refused, and soon: how many things an index tells doesn't count how often another file is read.
func TestLoadOfGreatFiles(t *testing.T) {
	started := time.Now()
	refuse := func(files ...api.File) {
		t.Helper()
		if s, err := image.Load(files); err != api.ErrForm || !post.Same(s, api.State{}) {
			t.Errorf("Load of great files answers %s, %v", told(s), err)
		}
	}
	body := strings.Repeat("x", 100000)
	entries := strings.Repeat(begin+"0 1970\n\n", 4444)
	many := func(line string) string { return "state 2 3\n" + strings.Repeat(line, 190000/len(line)) }
	for _, index := range []string{many("item 1 0 0 0 1 0 \n"), many("box 0 1 2 INBOX\n"), many("box\n"), many("item\n"), many("item 1 0 0 0 9223372036854775807\n"), many("message 1 0 0 45\n"), "box 0 1 5 INBOX\n" + many("message 1 0 0 45\n"), many("\n"), many(" "), "item 1 0 0 0 9223372036854775807" + many(" 0")} {
		refuse(file("index", index), file("m1", entries), file("q1", body))
		refuse(file("index", index))
		files := []api.File{file("index", index)}
		for range 40 {
			files = append(files, file("m1", entries), file("q1", body))
		}
		refuse(files...)
		refuse(files[:49]...)
		refuse(file("index", index), file("index", index), file("index", index), file("m1", entries))
	}
	huge := bytes.Repeat([]byte("item 1 0 0 0 1 0 \n"), 1<<20)
	refuse(api.File{Name: "index", Bytes: huge}, file("q1", body))
	refuse(file("index", "state 1 2\nitem 1 0 0 0 1 0 \n"), api.File{Name: "q1", Bytes: huge})
	refuse(make([]api.File, 1<<20)...)
	refuse(slices.Repeat(listOfRich(), 1<<16)...)
	if took := time.Since(started); took > 20*time.Second {
		t.Errorf("to refuse great files takes %v", took)
	}
}
