// Package collisions tests what the packages say when two inputs of the hash have the same result. Since nobody knows such inputs for SHA-256, all its tests run with a weak hash in the place of package sha256.
package collisions_test

import (
	standard "crypto/sha256"
	"encoding/json"
	"errors"
	"os"
	"os/exec"
	"path/filepath"
	"slices"
	"strings"
	"testing"

	"bulletin/sha256"
)

// running is the variable of the environment that tells that package sha256 has been replaced.
const running = "BULLETIN_WEAK_HASH"

// values is the number of different digests of the weak hash.
const values = 8

// weakPackage takes the place of package sha256.
const weakPackage = `package sha256

import (
	standard "crypto/sha256"

	"bulletin/api"
)

const Size, BlockSize = 32, 64

type (
	Digest [Size]byte
	Half   [16]byte
	Hash   struct{ written string }
)

func Sum(b []byte) Digest {
	d := standard.Sum256(b)
	return Digest{d[0] & 7}
}

func SumHalf(b []byte) Half {
	d := Sum(b)
	return Half(d[:16])
}

func New() *Hash { return &Hash{} }

func (h *Hash) Write(b []byte) api.Errno {
	h.written += string(b)
	return api.OK
}

func (h *Hash) Sum() Digest    { return Sum([]byte(h.written)) }
func (h *Hash) Len() int       { return len(h.written) }
func (h *Hash) Clone() *Hash   { return &Hash{h.written} }
func (d Digest) String() string { return string(d[:]) }

func Parse(s string) (Digest, api.Errno) { return Digest{}, api.ErrFormat }
`

// weak is the hash of weakPackage.
func weak(b []byte) [16]byte {
	d := standard.Sum256(b)
	return [16]byte{d[0] & 7}
}

// TestMain runs the tests of this folder in a program of its own, which the weak package is compiled into.
func TestMain(m *testing.M) {
	if os.Getenv(running) != "" {
		os.Exit(m.Run())
	}
	os.Exit(runWeak())
}

func runWeak() int {
	dir, err := os.MkdirTemp("", "weak")
	if err != nil {
		return failed("no folder for the weak hash", err)
	}
	defer os.RemoveAll(dir)
	overlay, err := writeOverlay(dir)
	if err != nil {
		return failed("the weak hash was not written", err)
	}
	program := filepath.Join(dir, "collisions.test")
	build := exec.Command("go", "test", "-c", "-overlay", overlay, "-o", program, ".")
	if out, err := build.CombinedOutput(); err != nil {
		return failed("the tests were not compiled with the weak hash: "+string(out), err)
	}
	arguments := slices.DeleteFunc(os.Args[1:], func(s string) bool { // the program does not measure what it covers
		return strings.HasPrefix(s, "-test.cover") || strings.HasPrefix(s, "-test.gocoverdir")
	})
	run := exec.Command(program, arguments...)
	run.Env = append(os.Environ(), running+"=1")
	run.Stdout, run.Stderr = os.Stdout, os.Stderr
	err = run.Run()
	if exit := (*exec.ExitError)(nil); errors.As(err, &exit) {
		return max(1, exit.ExitCode())
	} else if err != nil {
		return failed("the tests did not run", err)
	}
	return 0
}

func failed(what string, err error) int {
	os.Stderr.WriteString(what + ": " + err.Error() + "\n")
	return 1
}

// writeOverlay writes the weak package and what tells the compiler to read it instead of the files of package sha256.
func writeOverlay(dir string) (string, error) {
	weakFile, overlay := filepath.Join(dir, "weak.go"), filepath.Join(dir, "overlay.json")
	if err := os.WriteFile(weakFile, []byte(weakPackage), 0o644); err != nil {
		return "", err
	}
	folder, err := filepath.Abs(filepath.Join("..", "sha256"))
	if err != nil {
		return "", err
	}
	files, err := filepath.Glob(filepath.Join(folder, "*.go"))
	if err != nil {
		return "", err
	}
	replace := map[string]string{filepath.Join(folder, "weak.go"): weakFile}
	for _, file := range files {
		if !strings.HasSuffix(file, "_test.go") {
			replace[file] = "" // as if it were not there
		}
	}
	text, err := json.Marshal(map[string]map[string]string{"Replace": replace})
	if err != nil {
		return "", err
	}
	return overlay, os.WriteFile(overlay, text, 0o644)
}

// TestWeakHash checks that the packages are compiled with the weak hash.
func TestWeakHash(t *testing.T) {
	seen := map[sha256.Half]bool{}
	for i := range 1000 {
		b := []byte{byte(i), byte(i >> 8)}
		if sha256.SumHalf(b) != weak(b) {
			t.Fatalf("SumHalf(%x) = %x, want %x", b, sha256.SumHalf(b), weak(b))
		}
		seen[sha256.SumHalf(b)] = true
	}
	if len(seen) != values {
		t.Errorf("the weak hash has %d values", len(seen))
	}
}
